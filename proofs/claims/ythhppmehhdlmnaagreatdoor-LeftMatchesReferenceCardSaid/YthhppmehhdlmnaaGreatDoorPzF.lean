/- The contract of the reference's Next: the next token and its end, or the first wrong byte. The contracts of the reference's Next, whatever spacing comes first,  -/
import Derived.Deep.Cut
import Derived.Deep.DeepCutAuto
import Derived.Test.YthhppmehhdlmnaaGreatDoorPzA
import Derived.Test.YthhppmehhdlmnaaGreatDoorPzLexClass
namespace Go.Proofs.YthhppmehhdlmnaaGreatDoor
open Go.RowKit
def tokV (t:Tok):Value:=.agg #[.int .i64 (t.kind:Int),.int .i64 (t.at_:Int),.string (strOf t.text),.int .u64 (setW (inRs t.rs) 0),.int .u64 (setW (inRs t.rs) 1),.int .u64 (setW (inRs t.rs) 2),.int .u64 (setW (inRs t.rs) 3)]
def tok0:Value:=.agg #[.int .i64 0,.int .i64 0,.string ⟨#[]⟩,.int .u64 0,.int .u64 0,.int .u64 0,.int .u64 0]
def TokIs (o:Option (Tok × Nat))(k:Nat)(w:World)(e:Ending)(w':World):Prop:=
 match o with
 |some (t,n)=>e=.returned (.tuple #[tokV t,.int .i64 (n:Int),.int .i64 (-1)])/\Below w.heap.size w w'
 |none=>e=.returned (.tuple #[tok0,.int .i64 0,.int .i64 (k:Int)])/\Below w.heap.size w w'
theorem TokIs.bad {o:Option (Tok × Nat)}{w w':World}{k:Nat}(h:o=none)(hb:Below w.heap.size w w') :
  TokIs o k w (.returned (.tuple #[.agg #[.int .i64 0,.int .i64 0,.string ⟨#[]⟩,.int .u64 0,.int .u64 0,.int .u64 0,.int .u64 0],.int .i64 0,.int .i64 (k:Int)])) w':=by
 subst h;exact⟨rfl,hb⟩
theorem zc0 (k:Nat):setW (inRs []) k=0:=zbs k
theorem TokIs.plain {o:Option (Tok × Nat)}{w w':World}{k a n:Nat}{t:List Nat}{x y:Int}{s:ByteArray}(h:o=some (⟨a,k,t,[]⟩,n))(ha:x=a)(hs:s=strOf t)(hn:y=n)(hb:Below w.heap.size w w') :
  TokIs o k w (.returned (.tuple #[.agg #[.int .i64 x,.int .i64 (k:Int),.string s,.int .u64 0,.int .u64 0,.int .u64 0,.int .u64 0],.int .i64 y,.int .i64 (-1)])) w':=by
 subst h ha hs hn;refine⟨?_,hb⟩;unfold tokV;simp only[zc0]
theorem TokIs.cls {o:Option (Tok × Nat)}{w w':World}{k n:Nat}{rs:List (Nat × Nat)}{y:Int}(h:o=some (⟨13,k,[],rs⟩,n))(hn:y=n)(hb:Below w.heap.size w w') :
  TokIs o k w (.returned (.tuple #[.agg #[.int .i64 13,.int .i64 (k:Int),.string ⟨#[]⟩,.int .u64 (setW (inRs rs) 0),.int .u64 (setW (inRs rs) 1),.int .u64 (setW (inRs rs) 2),.int .u64 (setW (inRs rs) 3)],.int .i64 y,.int .i64 (-1)])) w':=by
 subst h hn;exact⟨rfl,hb⟩
theorem zx0 (s:ByteArray)(k j:Nat):s.extract k j=strOf (((bts s).drop k).take (j-k)):=by
 rw[<-zdt,zub]
def Zero7 (B:Nat)(w:World):Prop:=
 (w.cell? ⟨B,0,none⟩=some (.int .i64 0)/\w.cell? ⟨B,1,none⟩=some (.int .i64 0)/\w.cell? ⟨B,2,none⟩=some (.string ⟨#[]⟩)/\w.cell? ⟨B,3,none⟩=some (.int .u64 0)/\w.cell? ⟨B,4,none⟩=some (.int .u64 0)/\w.cell? ⟨B,5,none⟩=some (.int .u64 0)/\w.cell? ⟨B,6,none⟩=some (.int .u64 0))/\∀o,w.frozen? ⟨B,o,none⟩=false
theorem Zero7.below {B n:Nat}{w w':World}(h:Zero7 B w)(hb:Below n w w')(hB:B<n):Zero7 B w':=by
 obtain⟨⟨h0,h1,h2,h3,h4,h5,h6⟩,hf⟩:=h;have hc:=bcell hb;exact⟨⟨by rw[hc.1 _ _ hB];exact h0,by rw[hc.1 _ _ hB];exact h1,by rw[hc.1 _ _ hB];exact h2,by rw[hc.1 _ _ hB];exact h3,by rw[hc.1 _ _ hB];exact h4,by rw[hc.1 _ _ hB];exact h5,by rw[hc.1 _ _ hB];exact h6⟩,fun o=>by rw[hc.2 _ _ hB];exact hf o⟩
theorem za8 {B:Nat}{w w':World}(hb:Below B w w')(a b c d e f g:Value) :
  Below B w (((((((w'.setCell ⟨B,0,none⟩ a).setCell ⟨B,1,none⟩ b).setCell ⟨B,2,none⟩ c).setCell ⟨B,3,none⟩ d).setCell ⟨B,4,none⟩ e).setCell ⟨B,5,none⟩ f).setCell ⟨B,6,none⟩ g):=
 ((((((hb.setCell (Nat.le_refl _) _).setCell (Nat.le_refl _) _).setCell (Nat.le_refl _) _).setCell (Nat.le_refl _) _).setCell (Nat.le_refl _) _).setCell (Nat.le_refl _) _).setCell (Nat.le_refl _) _
def NextIs (o:Except Nat (Tok × Nat))(w:World)(e:Ending)(w':World):Prop:=
 match o with
 |.ok (t,n)=>e=.returned (.tuple #[tokV t,.int .i64 (n:Int),.int .i64 (-1)])/\Below w.heap.size w w'
 |.error k=>e=.returned (.tuple #[tok0,.int .i64 0,.int .i64 (k:Int)])/\Below w.heap.size w w'
theorem NextIs.bad {o:Except Nat (Tok × Nat)}{w w':World}{k:Nat}{x:Int}(h:o=.error k)(hx:x=k)(hb:Below w.heap.size w w') :
  NextIs o w (.returned (.tuple #[.agg #[.int .i64 0,.int .i64 0,.string ⟨#[]⟩,.int .u64 0,.int .u64 0,.int .u64 0,.int .u64 0],.int .i64 0,.int .i64 x])) w':=by
 subst h hx;exact⟨rfl,hb⟩
def tokC (t:Tok):List Value:=[.int .i64 (t.kind:Int),.int .i64 (t.at_:Int),.string (strOf t.text),.int .u64 (setW (inRs t.rs) 0),.int .u64 (setW (inRs t.rs) 1),.int .u64 (setW (inRs t.rs) 2),.int .u64 (setW (inRs t.rs) 3)]
def toksC (ts:List Tok):List Value:=ts.flatMap tokC
end Go.Proofs.YthhppmehhdlmnaaGreatDoor
