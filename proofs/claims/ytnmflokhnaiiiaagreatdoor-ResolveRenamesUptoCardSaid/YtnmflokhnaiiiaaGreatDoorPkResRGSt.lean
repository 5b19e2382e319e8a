/- The state of the reference's Of while its rows grow. -/
import Derived.Test.YtnmflokhnaiiiaaGreatDoorPkResGram
import Derived.Test.YtnmflokhnaiiiaaGreatDoorPkRD
namespace Go.Proofs.YtnmflokhnaiiiaaGreatDoor
section
open Go.RowKit
def zRes:Array Value:=#[.slice none 0 0,.slice none 0 0,.string ⟨#[]⟩,.int .i64 0,.int .i64 0]
def RGst (w:World)(ins:Array Value)(rv:Value)(rn:Nat)(rs:List Value)(nv:Value)(ns:List PN)(qs:List Value)(wr:World):Prop:=
 Bl wr w.heap.size 34 ins/\Bl wr (w.heap.size+1) 44 zRes/\Bl wr (w.heap.size+2) 40 #[rv,nv]/\wr.ownsRow w.heap.size 75 2 rv rn rs /\
 (qs.length=ns.length/\wr.ownsRow w.heap.size 73 7 nv ns.length (zbs (ns.zip qs)))/\(∀(j:Nat) (n:PN) (q:Value),ns[j]?=some n->qs[j]?=some q->IntsAt w q n.kids)/\Below w.heap.size w wr
section
variable {w wr W w5:World} {ins:Array Value} {rv nv v':Value} {rn:Nat} {rs elem:List Value} {ns:List PN} {qs:List Value}
theorem RGst.bel (h:RGst w ins rv rn rs nv ns qs wr):Below w.heap.size w wr:=h.2.2.2.2.2.2
theorem RGst.nrow (h:RGst w ins rv rn rs nv ns qs wr):wr.ownsRow w.heap.size 73 7 nv ns.length (zbs (ns.zip qs)):=h.2.2.2.2.1.2
theorem RGst.below (h:RGst w ins rv rn rs nv ns qs wr)(hb:Below wr.heap.size wr W):RGst w ins rv rn rs nv ns qs W:=
 ⟨h.1.below hb,h.2.1.below hb,h.2.2.1.below hb,zab h.2.2.2.1 hb,⟨h.2.2.2.2.1.1,zab h.nrow hb⟩,h.2.2.2.2.2.1,h.bel.trans (hb.mono h.bel.size)⟩
theorem RGst.rule (h:RGst w ins rv rn rs nv ns qs W)(hg:W.grownBy w5 rv.ownBlock)(hown:w5.ownsRow w.heap.size 75 2 v' (rn+1) (rs++elem)) :
  RGst w ins v' (rn+1) (rs++elem) nv ns qs (w5.setCell ⟨w.heap.size+2,0,none⟩ v'):=by
 obtain⟨h1,h2,h3,h4,⟨hq,h5⟩,hk,h6⟩:=h;have z3:=zbc h3 h4 hg (by decide);have n1:=zcm h5 h4 hg (by decide);exact⟨(zbc h1 h4 hg (by decide)).other (by omega) _,(zbc h2 h4 hg (by decide)).other (by omega) _,z3.put v',ownsRow_setCell_other hown (a:=⟨w.heap.size+2,0,none⟩) (zaq hown z3 (by decide)) _,⟨hq,ownsRow_setCell_other n1 (a:=⟨w.heap.size+2,0,none⟩) (zaq n1 z3 (by decide)) _⟩,hk,(h6.grown hg h6.size (fun b hb=>(h4.lt b hb).1)).setCell (p:=⟨w.heap.size+2,0,none⟩) (by show w.heap.size<=w.heap.size+2;omega) _⟩
theorem RGst.mid (h:RGst w ins rv rn rs nv ns qs W)(hg:W.grownBy w5 rv.ownBlock):Bl w5 (w.heap.size+2) 40 #[rv,nv]:=zbc h.2.2.1 h.2.2.2.1 hg (by decide)
theorem RGst.mid2 (h:RGst w ins rv rn rs nv ns qs W)(hg:W.grownBy w5 nv.ownBlock):Bl w5 (w.heap.size+2) 40 #[rv,nv]:=zbc h.2.2.1 h.nrow hg (by decide)
theorem z1f {n:PN}{kv:Value}(hq:qs.length=ns.length):zbs ((ns++[n]).zip (qs++[kv]))=zbs (ns.zip qs)++nodeC (n,kv):=by
 rw[List.zip_append hq.symm];unfold zbs;rw[List.flatMap_append];simp
theorem RGst.node {n:PN}{kv:Value}(h:RGst w ins rv rn rs nv ns qs W)(hkv:IntsAt w kv n.kids)(hg:W.grownBy w5 nv.ownBlock)(hown:w5.ownsRow w.heap.size 73 7 v' (ns.length+1) (zbs (ns.zip qs)++nodeC (n,kv))) :
  RGst w ins rv rn rs v' (ns++[n]) (qs++[kv]) (w5.setCell ⟨w.heap.size+2,1,none⟩ v'):=by
 obtain⟨h1,h2,h3,h4,⟨hq,h5⟩,hk,h6⟩:=h;have z3:=zbc h3 h5 hg (by decide);have n0:=zcm h4 h5 hg (by decide);have hn:w5.ownsRow w.heap.size 73 7 v' (ns++[n]).length (zbs ((ns++[n]).zip (qs++[kv]))):=by
  rw[z1f hq,List.length_append,List.length_singleton];exact hown
 refine⟨(zbc h1 h5 hg (by decide)).other (by omega) _,(zbc h2 h5 hg (by decide)).other (by omega) _,z3.put v',ownsRow_setCell_other n0 (a:=⟨w.heap.size+2,1,none⟩) (zaq n0 z3 (by decide)) _,⟨by rw[List.length_append,List.length_append,hq];rfl,ownsRow_setCell_other hn (a:=⟨w.heap.size+2,1,none⟩) (zaq hn z3 (by decide)) _⟩,fun j m q a b=>?_,(h6.grown hg h6.size (fun b hb=>(h5.lt b hb).1)).setCell (p:=⟨w.heap.size+2,1,none⟩) (by show w.heap.size<=w.heap.size+2;omega) _⟩;rcases Nat.lt_or_ge j ns.length with hj|hj
 ·rw[List.getElem?_append_left hj] at a
  rw[List.getElem?_append_left (by rw[hq];exact hj)] at b;exact hk j m q a b
 ·have hje:j=ns.length:=by
   have:=(List.getElem?_eq_some_iff.1 a).1;simp at this;omega
  subst hje;rw[List.getElem?_append_right (Nat.le_refl _),Nat.sub_self] at a;rw[List.getElem?_append_right (by rw[hq];exact Nat.le_refl _),hq,Nat.sub_self] at b;obtain rfl:=Option.some.inj a;obtain rfl:=Option.some.inj b;exact hkv
def ROfIs (rs:List (List Nat × Nat × Int))(f:MF)(w:World)(e:Ending)(w':World):Prop:=match dupO rs with
 |some x=>e=.returned (.agg #[.slice none 0 0,.slice none 0 0,.string (strOf x.1),.int .i64 2,.int .i64 (x.2:Int)])/\Below w.heap.size w w'
 |none=>match undO (nmR rs) f with
  |some x=>e=.returned (.agg #[.slice none 0 0,.slice none 0 0,.string (strOf x.1),.int .i64 3,.int .i64 (x.2:Int)])/\Below w.heap.size w w'
  |none=>∃rv nv,e=.returned (.agg #[rv,nv,.string ⟨#[]⟩,.int .i64 0,.int .i64 0])/\RulesIn w' rv (zam rs)/\NodesAt w' nv (zan (nmR rs) (nmC f) f.nodes)/\Below w.heap.size w w'
theorem ROfIs.dup {rs:List (List Nat × Nat × Int)}{f:MF}{x:List Nat × Nat}{w':World}(hd:dupO rs=some x)(hb:Below w.heap.size w w'):ROfIs rs f w (.returned (.agg #[.slice none 0 0,.slice none 0 0,.string (strOf x.1),.int .i64 2,.int .i64 (x.2:Int)])) w':=by
 unfold ROfIs;rw[hd];exact⟨rfl,hb⟩
theorem ROfIs.und {rs:List (List Nat × Nat × Int)}{f:MF}{x:List Nat × Nat}{w':World}(hd:dupO rs=none)(hu:undO (nmR rs) f=some x)(hb:Below w.heap.size w w'):ROfIs rs f w (.returned (.agg #[.slice none 0 0,.slice none 0 0,.string (strOf x.1),.int .i64 3,.int .i64 (x.2:Int)])) w':=by
 unfold ROfIs;rw[hd];dsimp only;rw[hu];exact⟨rfl,hb⟩
theorem ROfIs.ok {rs:List (List Nat × Nat × Int)}{f:MF}{w':World}(hd:dupO rs=none)(hu:undO (nmR rs) f=none)(h1:RulesIn w' rv (zam rs))(h2:NodesAt w' nv (zan (nmR rs) (nmC f) f.nodes))(hb:Below w.heap.size w w'):ROfIs rs f w (.returned (.agg #[rv,nv,.string ⟨#[]⟩,.int .i64 0,.int .i64 0])) w':=by
 unfold ROfIs;rw[hd];dsimp only;rw[hu];exact⟨rv,nv,rfl,h1,h2,hb⟩
theorem RGst.fin {ts:List PR}(h:RGst w ins rv ts.length (zb5 ts) nv ns qs W)(hl:ts.length<=maxLen)(hn:ns.length<=maxLen)(hk:∀n,n ∈ ns->n.kids.length<=maxLen){W':World}(hb:∀b,b<W.heap.size->b≠w.heap.size+1->W'.heap[b]?=W.heap[b]?)(hB:Below w.heap.size w W'):RulesIn W' rv ts/\NodesAt W' nv ns:=by
 have key:∀ {e:TypeId} {size n:Nat} {v:Value} {xs:List Value},e≠44->W.ownsRow w.heap.size e size v n xs->W'.ownsRow w.heap.size e size v n xs:=fun he ho=>by
  obtain⟨h1,h2⟩:=ho;refine⟨h1,?_⟩;rcases h2 with h2|⟨g,cap,cur,hv,hg,hh,hr⟩
  ·exact .inl h2
  ·refine .inr ⟨g,cap,cur,hv,hg,?_,hr⟩
   rw[hb g (Array.getElem?_eq_some_iff.1 hh).1 (fun e0=>by
    subst e0;have:=h.2.1;unfold Bl at this;rw[this] at hh;injection hh with hh;injection hh with _ hh _;exact he hh.symm)]
   exact hh
 exact⟨RulesIn.of_own (key (by decide) h.2.2.2.1) hl,NodesAt.of_own (key (by decide) h.nrow) h.2.2.2.2.1.1 hn fun j n q a b=>⟨(h.2.2.2.2.2.1 j n q a b).kept hB (Nat.le_refl _),hk n (List.mem_of_getElem? a)⟩⟩
end
end
end Go.Proofs.YtnmflokhnaiiiaaGreatDoor
