/- The contract of the reference's Next: the next token and its end, or the first wrong byte. The contracts of the reference's Next, whatever spacing comes first,  -/
import Derived.Deep.Cut
import Derived.Deep.DeepCutAuto
import Derived.Test.YtmopdlbpkiaoeaaGreatDoorPkA
import Derived.Test.YtmopdlbpkiaoeaaGreatDoorPkE
namespace Go.Proofs.YtmopdlbpkiaoeaaGreatDoor
open Go.RowKit
def tokV (t:Tok):Value:=.agg #[.int .i64 (t.kind:Int),.int .i64 (t.at_:Int),.string (strOf t.text),.int .u64 (setW (inRs t.rs) 0),.int .u64 (setW (inRs t.rs) 1),.int .u64 (setW (inRs t.rs) 2),.int .u64 (setW (inRs t.rs) 3)]
def tok0:Value:=.agg #[.int .i64 0,.int .i64 0,.string ⟨#[]⟩,.int .u64 0,.int .u64 0,.int .u64 0,.int .u64 0]
def TokIs (o:Option (Tok × Nat))(k:Nat)(w:World)(e:Ending)(w':World):Prop:=
 match o with
 |some (t,n)=>e=.returned (.tuple #[tokV t,.int .i64 (n:Int),.int .i64 (-1)])/\Below w.heap.size w w'
 |none=>e=.returned (.tuple #[tok0,.int .i64 0,.int .i64 (k:Int)])/\Below w.heap.size w w'
theorem TokIs.bad {o:Option (Tok × Nat)}{w w':World}{k:Nat}(h:o=none)(hb:Below w.heap.size w w') :
  TokIs o k w (.returned (.tuple #[.agg #[.int .i64 0,.int .i64 0,.string ⟨#[]⟩,.int .u64 0,.int .u64 0,.int .u64 0,.int .u64 0],.int .i64 0,.int .i64 (k:Int)])) w':=by
 subst h;exact⟨rfl,hb⟩
theorem zc6 (k:Nat):setW (inRs []) k=0:=zcc k
theorem zgk (s:ByteArray)(k j:Nat):s.extract k j=strOf (((bts s).drop k).take (j-k)):=by
 rw[<-zby,zt7]
def Zero7 (B:Nat)(w:World):Prop:=
 (w.cell? ⟨B,0,none⟩=some (.int .i64 0)/\w.cell? ⟨B,1,none⟩=some (.int .i64 0)/\w.cell? ⟨B,2,none⟩=some (.string ⟨#[]⟩)/\w.cell? ⟨B,3,none⟩=some (.int .u64 0)/\w.cell? ⟨B,4,none⟩=some (.int .u64 0)/\w.cell? ⟨B,5,none⟩=some (.int .u64 0)/\w.cell? ⟨B,6,none⟩=some (.int .u64 0))/\∀o,w.frozen? ⟨B,o,none⟩=false
theorem Zero7.below {B n:Nat}{w w':World}(h:Zero7 B w)(hb:Below n w w')(hB:B<n):Zero7 B w':=by
 obtain⟨⟨h0,h1,h2,h3,h4,h5,h6⟩,hf⟩:=h;have hc:=bcell hb;exact⟨⟨by rw[hc.1 _ _ hB];exact h0,by rw[hc.1 _ _ hB];exact h1,by rw[hc.1 _ _ hB];exact h2,by rw[hc.1 _ _ hB];exact h3,by rw[hc.1 _ _ hB];exact h4,by rw[hc.1 _ _ hB];exact h5,by rw[hc.1 _ _ hB];exact h6⟩,fun o=>by rw[hc.2 _ _ hB];exact hf o⟩
theorem za8 {B:Nat}{w w':World}(hb:Below B w w')(a b c d e f g:Value) :
  Below B w (((((((w'.setCell ⟨B,0,none⟩ a).setCell ⟨B,1,none⟩ b).setCell ⟨B,2,none⟩ c).setCell ⟨B,3,none⟩ d).setCell ⟨B,4,none⟩ e).setCell ⟨B,5,none⟩ f).setCell ⟨B,6,none⟩ g):=
 ((((((hb.setCell (Nat.le_refl _) _).setCell (Nat.le_refl _) _).setCell (Nat.le_refl _) _).setCell (Nat.le_refl _) _).setCell (Nat.le_refl _) _).setCell (Nat.le_refl _) _).setCell (Nat.le_refl _) _
def NextIs (o:Except Nat (Tok × Nat))(w:World)(e:Ending)(w':World):Prop:=
 match o with
 |.ok (t,n)=>e=.returned (.tuple #[tokV t,.int .i64 (n:Int),.int .i64 (-1)])/\Below w.heap.size w w'
 |.error k=>e=.returned (.tuple #[tok0,.int .i64 0,.int .i64 (k:Int)])/\Below w.heap.size w w'
theorem NextIs.bad {o:Except Nat (Tok × Nat)}{w w':World}{k:Nat}{x:Int}(h:o=.error k)(hx:x=k)(hb:Below w.heap.size w w') :
  NextIs o w (.returned (.tuple #[.agg #[.int .i64 0,.int .i64 0,.string ⟨#[]⟩,.int .u64 0,.int .u64 0,.int .u64 0,.int .u64 0],.int .i64 0,.int .i64 x])) w':=by
 subst h hx;exact⟨rfl,hb⟩
def tokC (t:Tok):List Value:=[.int .i64 (t.kind:Int),.int .i64 (t.at_:Int),.string (strOf t.text),.int .u64 (setW (inRs t.rs) 0),.int .u64 (setW (inRs t.rs) 1),.int .u64 (setW (inRs t.rs) 2),.int .u64 (setW (inRs t.rs) 3)]
def toksC (ts:List Tok):List Value:=ts.flatMap tokC
theorem zko (ts:List Tok)(t:Tok):toksC (ts++[t])=toksC ts++tokC t:=by unfold toksC;rw[List.flatMap_append];simp
def ToksIs (o:Except Nat (List Tok))(w:World)(e:Ending)(w':World):Prop:=
 match o with
 |.error k=>e=.returned (.tuple #[.slice none 0 0,.int .i64 (k:Int)])/\Below w.heap.size w w'
 |.ok ts=>∃v,e=.returned (.tuple #[v,.int .i64 (-1)])/\w'.ownsRow w.heap.size 169 7 v ts.length (toksC ts)/\Below w.heap.size w w'
theorem ToksIs.bad {o:Except Nat (List Tok)}{w w':World}{k:Nat}(h:o=.error k)(hb:Below w.heap.size w w'):ToksIs o w (.returned (.tuple #[.slice none 0 0,.int .i64 (k:Int)])) w':=by
 subst h;exact⟨rfl,hb⟩
theorem zj1 (w:World)(l:List Value)(t:TypeId):∀j u,l[j]?=some u->(w.alloc (.cells l.toArray t)).cell? ((⟨w.heap.size,0,none⟩:Addr).add j)=some u:=by
 intro j u hj;rw[Addr.add_lit];have hb:(w.alloc (.cells l.toArray t)).heap[w.heap.size]?=some (.cells l.toArray t):=heap_alloc_new w _;rw[Nat.zero_add,Lib.cell_of_heap hb];simpa using hj
theorem zcd (w:World)(o:Obj)(l:List Value)(t:TypeId):∀j u,l[j]?=some u->((w.alloc o).alloc (.cells l.toArray t)).cell? ((⟨w.heap.size+1,0,none⟩:Addr).add j)=some u:=by
 have:=zj1 (w.alloc o) l t;rw[World.size_alloc] at this;exact this
theorem zii {w1 w2:World}{l:Array Value}{t:TypeId}{o:Obj}{v x:Value}{base n:Nat}{xs:List Value}(hs1:w1.ownsRow base t 7 v n xs)(hg:((w1.alloc (.cells l t)).alloc o).grownBy w2 v.ownBlock)(h0:l[0]?=some x):w2.cell? ⟨w1.heap.size,0,none⟩=some x:=by
 have h1:((w1.alloc (.cells l t)).alloc o).heap[w1.heap.size]?=some (.cells l t):=by
  rw[Below.heap_alloc _ _ _ (by rw[World.size_alloc];exact Nat.lt_succ_self _)];exact heap_alloc_new w1 _
 have h2:w2.heap[w1.heap.size]?=some (.cells l t):=by
  rw[hg.block _ (by rw[World.size_alloc,World.size_alloc];omega) (fun e=>by have:=(hs1.lt _ e.symm).2;omega)];exact h1
 rw[Lib.cell_of_heap h2];exact h0
end Go.Proofs.YtmopdlbpkiaoeaaGreatDoor
