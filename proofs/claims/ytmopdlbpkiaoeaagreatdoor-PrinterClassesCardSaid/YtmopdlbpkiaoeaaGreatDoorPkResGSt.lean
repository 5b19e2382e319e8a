/- The state of resolve's grammar while its rows grow. -/
import Derived.Test.YtmopdlbpkiaoeaaGreatDoorPkL
import Derived.Test.YtmopdlbpkiaoeaaGreatDoorPkRA
namespace Go.Proofs.YtmopdlbpkiaoeaaGreatDoor
section
open Go.RowKit
theorem zf6 {P:Program}(w:World){ops:Array Oper}{rest:List Oper}{o:Oper}{a:Act}{Q:Exit->Act->World->Prop}(hgd:o.guard=none)(s x:Operand)(t:TypeId)
  (ho:o.op=.call { callee:=.builtin .append,args:=#[s,x],argTypes:=#[t,t] })
  (base:Nat) (e:TypeId) (i:TypeInfo) (z:Value) (size bytes:Nat) (ht:P.underlying t=some (.slice e)) (hi:P.info? e=some i) (hz:i.zero=some z)
  (hsize:i.size=size) (hby:i.bytes=bytes) (hzs:z.cells.size=size) (hsz:0<size) (hs:a.eval s=.slice none 0 0)
  (ka:Option Addr) (m c:Nat) (news:List Value) (hx:a.eval x=.slice ka m c) (hl:news.length=m*size) (ha:m=0∨∃b off,ka=some ⟨b,off,none⟩/\∀j u,news[j]?=some u->w.cell? ⟨b,off+j,none⟩=some u) (h1:∀u ∈ news,u.oneCell'=true)
  (h63:m<=maxLen) (hbytes:m*bytes<=140737488355328) (hbase:base<=w.heap.size)
  (h:∀a' c' w',w'.ownsRow base e size (.slice a' m c') m news->w.grownBy w' none->wpList P ops Q rest (a.put o.dst (.slice a' m c')) w'):wpList P ops Q (o::rest) a w:=by
 refine wpList_plain hgd fun K hK=>?_
 obtain⟨v',w',hr,h2,h3,-⟩:=zh3 (P:=P) w base t o.type e i z size bytes ht hi hz hsize hby hzs hsz ka m c news hl ha h1 h63 hbytes hbase;obtain⟨a',c',rfl⟩:∃a' c',v'=.slice a' m c':=by
  rcases h2.2 with⟨e,e0⟩|⟨g,cap,cur,e,-⟩
  ·exact⟨none,0,by rw[e,e0]⟩
  ·exact⟨_,_,e⟩
 unfold Oper.wp execOp;simp only[ho,resolve,invoke,builtin,Sem.run_bind,Sem.run_pure,Result.andThen_ok,List.map_toArray,List.map_cons,List.map_nil,hs,hx,hr];exact hK _ _ (h a' c' w' h2 h3)
def GSt (w:World)(ins:Array Value)(rv:Value)(rn:Nat)(rs:List Value)(nv:Value)(ns:List PN)(qs:List Value)(wr:World):Prop:=
 Bl wr w.heap.size 46 ins/\Bl wr (w.heap.size+1) 25 #[.slice none 0 0,.slice none 0 0]/\Bl wr (w.heap.size+2) 25 #[rv,nv]/\wr.ownsRow w.heap.size 32 2 rv rn rs/\NRow w.heap.size nv ns qs wr/\Below w.heap.size w wr
section
variable {w wr W w5:World} {ins:Array Value} {rv nv v':Value} {rn:Nat} {rs elem:List Value} {ns:List PN} {qs:List Value}
theorem GSt.below (h:GSt w ins rv rn rs nv ns qs wr)(hb:Below wr.heap.size wr W):GSt w ins rv rn rs nv ns qs W:=
 ⟨h.1.below hb,h.2.1.below hb,h.2.2.1.below hb,zab h.2.2.2.1 hb,h.2.2.2.2.1.grown hb,h.2.2.2.2.2.trans (hb.mono h.2.2.2.2.2.size)⟩
theorem zcm {w w':World}{base b2 n m:Nat}{e e':TypeId}{size sz2:Nat}{v u:Value}{xs ys:List Value}(h:w.ownsRow base e size v n xs)(k:w.ownsRow b2 e' sz2 u m ys)(hg:w.grownBy w' u.ownBlock)(he:e≠e'):w'.ownsRow base e size v n xs:=
 zbl h hg (fun g hv=>Lib.ownsRow_kind k g hv) he
theorem zbc {w w':World}{b b2 m:Nat}{t e':TypeId}{sz2:Nat}{u:Value}{cs:Array Value}{ys:List Value}(h:Bl w b t cs)(k:w.ownsRow b2 e' sz2 u m ys)(hg:w.grownBy w' u.ownBlock)(he:t≠e'):Bl w' b t cs:=
 h.grown hg fun g hv=>by
  obtain⟨c,fz,q⟩:=Lib.ownsRow_kind k g hv;exact⟨c,e',fz,q,he⟩
theorem GSt.rule (h:GSt w ins rv rn rs nv ns qs W)(hg:W.grownBy w5 rv.ownBlock)(hown:w5.ownsRow w.heap.size 32 2 v' (rn+1) (rs++elem)) :
  GSt w ins v' (rn+1) (rs++elem) nv ns qs (w5.setCell ⟨w.heap.size+2,0,none⟩ v'):=by
 obtain⟨h1,h2,h3,h4,h5,h6⟩:=h;have z3:=zbc h3 h4 hg (by decide);have n1:=zcm h5.2.1 h4 hg (by decide);have n2:∀(j:Nat) (n:PN) (q:Value),ns[j]?=some n->qs[j]?=some q->w5.ownsRow w.heap.size 3 1 q n.kids.length (intsV n.kids):=fun j n q a b=>zcm (h5.2.2 j n q a b) h4 hg (by decide)
 refine⟨(zbc h1 h4 hg (by decide)).other (by omega) _,(zbc h2 h4 hg (by decide)).other (by omega) _,z3.put v',ownsRow_setCell_other hown (a:=⟨w.heap.size+2,0,none⟩) (zaq hown z3 (by decide)) _,⟨h5.1,ownsRow_setCell_other n1 (a:=⟨w.heap.size+2,0,none⟩) (zaq n1 z3 (by decide)) _,fun j n q a b=>ownsRow_setCell_other (n2 j n q a b) (a:=⟨w.heap.size+2,0,none⟩) (zaq (n2 j n q a b) z3 (by decide)) _⟩,(h6.grown hg h6.size (fun b hb=>(h4.lt b hb).1)).setCell (p:=⟨w.heap.size+2,0,none⟩) (by show w.heap.size<=w.heap.size+2;omega) _⟩
theorem GSt.mid (h:GSt w ins rv rn rs nv ns qs W)(hg:W.grownBy w5 rv.ownBlock):Bl w5 (w.heap.size+2) 25 #[rv,nv]:=zbc h.2.2.1 h.2.2.2.1 hg (by decide)
theorem GSt.mid2 (h:GSt w ins rv rn rs nv ns qs W)(hg:W.grownBy w5 nv.ownBlock):Bl w5 (w.heap.size+2) 25 #[rv,nv]:=zbc h.2.2.1 h.2.2.2.2.1.2.1 hg (by decide)
theorem GSt.put (h:GSt w ins rv rn rs nv ns qs W)(o:Nat)(u:Value):(W.setCell ⟨w.heap.size+1,o,none⟩ u).ownsRow w.heap.size 32 2 rv rn rs/\NRow w.heap.size nv ns qs (W.setCell ⟨w.heap.size+1,o,none⟩ u)/\Below w.heap.size w (W.setCell ⟨w.heap.size+1,o,none⟩ u):=by
 obtain⟨-,h2,-,h4,h5,h6⟩:=h;exact⟨ownsRow_setCell_other h4 (a:=⟨w.heap.size+1,o,none⟩) (zaq h4 h2 (by decide)) u,⟨h5.1,ownsRow_setCell_other h5.2.1 (a:=⟨w.heap.size+1,o,none⟩) (zaq h5.2.1 h2 (by decide)) u,fun j n q a b=>ownsRow_setCell_other (h5.2.2 j n q a b) (a:=⟨w.heap.size+1,o,none⟩) (zaq (h5.2.2 j n q a b) h2 (by decide)) u⟩,h6.setCell (p:=⟨w.heap.size+1,o,none⟩) (by show w.heap.size<=w.heap.size+1;omega) u⟩
theorem GSt.fin (h:GSt w ins rv rn rs nv ns qs W)(u v:Value):((W.setCell ⟨w.heap.size+1,0,none⟩ u).setCell ⟨w.heap.size+1,1,none⟩ v).ownsRow w.heap.size 32 2 rv rn rs/\NRow w.heap.size nv ns qs ((W.setCell ⟨w.heap.size+1,0,none⟩ u).setCell ⟨w.heap.size+1,1,none⟩ v)/\Below w.heap.size w ((W.setCell ⟨w.heap.size+1,0,none⟩ u).setCell ⟨w.heap.size+1,1,none⟩ v):=by
 obtain⟨a,b,c⟩:=h.put 0 u;have h2:Bl (W.setCell ⟨w.heap.size+1,0,none⟩ u) (w.heap.size+1) 25 _:=h.2.1.put u;exact⟨ownsRow_setCell_other a (a:=⟨w.heap.size+1,1,none⟩) (zaq a h2 (by decide)) v,⟨b.1,ownsRow_setCell_other b.2.1 (a:=⟨w.heap.size+1,1,none⟩) (zaq b.2.1 h2 (by decide)) v,fun j n q x y=>ownsRow_setCell_other (b.2.2 j n q x y) (a:=⟨w.heap.size+1,1,none⟩) (zaq (b.2.2 j n q x y) h2 (by decide)) v⟩,c.setCell (p:=⟨w.heap.size+1,1,none⟩) (by show w.heap.size<=w.heap.size+1;omega) v⟩
theorem GSt.node {n:PN}{kv:Value}(h:GSt w ins rv rn rs nv ns qs W)(hk:W.ownsRow w.heap.size 3 1 kv n.kids.length (intsV n.kids))(hg:W.grownBy w5 nv.ownBlock)(hown:w5.ownsRow w.heap.size 54 7 v' (ns.length+1) (zbs (ns.zip qs)++nodeC (n,kv))) :
  GSt w ins rv rn rs v' (ns++[n]) (qs++[kv]) (w5.setCell ⟨w.heap.size+2,1,none⟩ v'):=by
 obtain⟨h1,h2,h3,h4,h5,h6⟩:=h;have z3:=zbc h3 h5.2.1 hg (by decide);have n0:=zcm h4 h5.2.1 hg (by decide);have hn:=h5.snoc hk hown (fun sz m u xs hu=>zcm hu h5.2.1 hg (by decide));refine⟨(zbc h1 h5.2.1 hg (by decide)).other (by omega) _,(zbc h2 h5.2.1 hg (by decide)).other (by omega) _,z3.put v',ownsRow_setCell_other n0 (a:=⟨w.heap.size+2,1,none⟩) (zaq n0 z3 (by decide)) _,⟨hn.1,ownsRow_setCell_other hn.2.1 (a:=⟨w.heap.size+2,1,none⟩) (zaq hn.2.1 z3 (by decide)) _,fun j n q a b=>ownsRow_setCell_other (hn.2.2 j n q a b) (a:=⟨w.heap.size+2,1,none⟩) (zaq (hn.2.2 j n q a b) z3 (by decide)) _⟩,(h6.grown hg h6.size (fun b hb=>(h5.2.1.lt b hb).1)).setCell (p:=⟨w.heap.size+2,1,none⟩) (by show w.heap.size<=w.heap.size+2;omega) _⟩
end
end
end Go.Proofs.YtmopdlbpkiaoeaaGreatDoor
