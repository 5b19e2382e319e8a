/- The state of resolve's grammar while its rows grow. resolve's grammar. resolve.Of. Written by wip/gen/resof.py. What a file that is parsed has: bounds, and call -/
import Derived.Deep.RegionLaw
import Derived.Deep.Cut
import Derived.Test.YthhppmehhdlmnaaGreatDoorPzRA
import Derived.Test.YthhppmehhdlmnaaGreatDoorPzK
import Derived.Test.YthhppmehhdlmnaaGreatDoorPzL
import Derived.Test.YthhppmehhdlmnaaGreatDoorPzSynLawC
import Derived.Test.YthhppmehhdlmnaaGreatDoorPzGramChk
set_option maxRecDepth 100000
set_option maxHeartbeats 8000000
namespace Go.Proofs.YthhppmehhdlmnaaGreatDoor
section
open Go.RowKit
theorem zfn {P:Program}(w:World){ops:Array Oper}{rest:List Oper}{o:Oper}{a:Act}{Q:Exit->Act->World->Prop}(hgd:o.guard=none)(s x:Operand)(t:TypeId)
  (ho:o.op=.call { callee:=.builtin .append,args:=#[s,x],argTypes:=#[t,t] })
  (base:Nat) (e:TypeId) (i:TypeInfo) (z:Value) (size bytes:Nat) (ht:P.underlying t=some (.slice e)) (hi:P.info? e=some i) (hz:i.zero=some z)
  (hsize:i.size=size) (hby:i.bytes=bytes) (hzs:z.cells.size=size) (hsz:0<size) (hs:a.eval s=.slice none 0 0)
  (ka:Option Addr) (m c:Nat) (news:List Value) (hx:a.eval x=.slice ka m c) (hl:news.length=m*size) (ha:m=0∨∃b off,ka=some ⟨b,off,none⟩/\∀j u,news[j]?=some u->w.cell? ⟨b,off+j,none⟩=some u) (h1:∀u ∈ news,u.oneCell'=true)
  (h63:m<=maxLen) (hbytes:m*bytes<=140737488355328) (hbase:base<=w.heap.size)
  (h:∀a' c' w',w'.ownsRow base e size (.slice a' m c') m news->w.grownBy w' none->wpList P ops Q rest (a.put o.dst (.slice a' m c')) w'):wpList P ops Q (o::rest) a w:=by
 refine wpList_plain hgd fun K hK=>?_
 obtain⟨v',w',hr,h2,h3,-⟩:=zd6 (P:=P) w base t o.type e i z size bytes ht hi hz hsize hby hzs hsz ka m c news hl ha h1 h63 hbytes hbase;obtain⟨a',c',rfl⟩:∃a' c',v'=.slice a' m c':=by
  rcases h2.2 with⟨e,e0⟩|⟨g,cap,cur,e,-⟩
  ·exact⟨none,0,by rw[e,e0]⟩
  ·exact⟨_,_,e⟩
 unfold Oper.wp execOp;simp only[ho,resolve,invoke,builtin,Sem.run_bind,Sem.run_pure,Result.andThen_ok,List.map_toArray,List.map_cons,List.map_nil,hs,hx,hr];exact hK _ _ (h a' c' w' h2 h3)
def GSt (w:World)(ins:Array Value)(rv:Value)(rn:Nat)(rs:List Value)(nv:Value)(ns:List PN)(qs:List Value)(wr:World):Prop:=
 Bl wr w.heap.size 88 ins/\Bl wr (w.heap.size+1) 25 #[.slice none 0 0,.slice none 0 0]/\Bl wr (w.heap.size+2) 25 #[rv,nv]/\wr.ownsRow w.heap.size 53 2 rv rn rs/\NRow w.heap.size nv ns qs wr/\Below w.heap.size w wr
section
variable {w wr W w5:World} {ins:Array Value} {rv nv v':Value} {rn:Nat} {rs elem:List Value} {ns:List PN} {qs:List Value}
theorem GSt.below (h:GSt w ins rv rn rs nv ns qs wr)(hb:Below wr.heap.size wr W):GSt w ins rv rn rs nv ns qs W:=
 ⟨h.1.below hb,h.2.1.below hb,h.2.2.1.below hb,zaa h.2.2.2.1 hb,h.2.2.2.2.1.grown hb,h.2.2.2.2.2.trans (hb.mono h.2.2.2.2.2.size)⟩
theorem zdb {w w':World}{base b2 n m:Nat}{e e':TypeId}{size sz2:Nat}{v u:Value}{xs ys:List Value}(h:w.ownsRow base e size v n xs)(k:w.ownsRow b2 e' sz2 u m ys)(hg:w.grownBy w' u.ownBlock)(he:e≠e'):w'.ownsRow base e size v n xs:=
 zbi h hg (fun g hv=>Lib.ownsRow_kind k g hv) he
theorem zbr {w w':World}{b b2 m:Nat}{t e':TypeId}{sz2:Nat}{u:Value}{cs:Array Value}{ys:List Value}(h:Bl w b t cs)(k:w.ownsRow b2 e' sz2 u m ys)(hg:w.grownBy w' u.ownBlock)(he:t≠e'):Bl w' b t cs:=
 h.grown hg fun g hv=>by
  obtain⟨c,fz,q⟩:=Lib.ownsRow_kind k g hv;exact⟨c,e',fz,q,he⟩
theorem GSt.rule (h:GSt w ins rv rn rs nv ns qs W)(hg:W.grownBy w5 rv.ownBlock)(hown:w5.ownsRow w.heap.size 53 2 v' (rn+1) (rs++elem)) :
  GSt w ins v' (rn+1) (rs++elem) nv ns qs (w5.setCell ⟨w.heap.size+2,0,none⟩ v'):=by
 obtain⟨h1,h2,h3,h4,h5,h6⟩:=h;have z3:=zbr h3 h4 hg (by decide);have n1:=zdb h5.2.1 h4 hg (by decide);have n2:∀(j:Nat) (n:PN) (q:Value),ns[j]?=some n->qs[j]?=some q->w5.ownsRow w.heap.size 3 1 q n.kids.length (intsV n.kids):=fun j n q a b=>zdb (h5.2.2 j n q a b) h4 hg (by decide)
 refine⟨(zbr h1 h4 hg (by decide)).other (by omega) _,(zbr h2 h4 hg (by decide)).other (by omega) _,z3.put v',ownsRow_setCell_other hown (a:=⟨w.heap.size+2,0,none⟩) (own_ne hown z3 (by decide)) _,⟨h5.1,ownsRow_setCell_other n1 (a:=⟨w.heap.size+2,0,none⟩) (own_ne n1 z3 (by decide)) _,fun j n q a b=>ownsRow_setCell_other (n2 j n q a b) (a:=⟨w.heap.size+2,0,none⟩) (own_ne (n2 j n q a b) z3 (by decide)) _⟩,(h6.grown hg h6.size (fun b hb=>(h4.lt b hb).1)).setCell (p:=⟨w.heap.size+2,0,none⟩) (by show w.heap.size<=w.heap.size+2;omega) _⟩
theorem GSt.mid (h:GSt w ins rv rn rs nv ns qs W)(hg:W.grownBy w5 rv.ownBlock):Bl w5 (w.heap.size+2) 25 #[rv,nv]:=zbr h.2.2.1 h.2.2.2.1 hg (by decide)
theorem GSt.mid2 (h:GSt w ins rv rn rs nv ns qs W)(hg:W.grownBy w5 nv.ownBlock):Bl w5 (w.heap.size+2) 25 #[rv,nv]:=zbr h.2.2.1 h.2.2.2.2.1.2.1 hg (by decide)
theorem GSt.put (h:GSt w ins rv rn rs nv ns qs W)(o:Nat)(u:Value):(W.setCell ⟨w.heap.size+1,o,none⟩ u).ownsRow w.heap.size 53 2 rv rn rs/\NRow w.heap.size nv ns qs (W.setCell ⟨w.heap.size+1,o,none⟩ u)/\Below w.heap.size w (W.setCell ⟨w.heap.size+1,o,none⟩ u):=by
 obtain⟨-,h2,-,h4,h5,h6⟩:=h;exact⟨ownsRow_setCell_other h4 (a:=⟨w.heap.size+1,o,none⟩) (own_ne h4 h2 (by decide)) u,⟨h5.1,ownsRow_setCell_other h5.2.1 (a:=⟨w.heap.size+1,o,none⟩) (own_ne h5.2.1 h2 (by decide)) u,fun j n q a b=>ownsRow_setCell_other (h5.2.2 j n q a b) (a:=⟨w.heap.size+1,o,none⟩) (own_ne (h5.2.2 j n q a b) h2 (by decide)) u⟩,h6.setCell (p:=⟨w.heap.size+1,o,none⟩) (by show w.heap.size<=w.heap.size+1;omega) u⟩
theorem GSt.fin (h:GSt w ins rv rn rs nv ns qs W)(u v:Value):((W.setCell ⟨w.heap.size+1,0,none⟩ u).setCell ⟨w.heap.size+1,1,none⟩ v).ownsRow w.heap.size 53 2 rv rn rs/\NRow w.heap.size nv ns qs ((W.setCell ⟨w.heap.size+1,0,none⟩ u).setCell ⟨w.heap.size+1,1,none⟩ v)/\Below w.heap.size w ((W.setCell ⟨w.heap.size+1,0,none⟩ u).setCell ⟨w.heap.size+1,1,none⟩ v):=by
 obtain⟨a,b,c⟩:=h.put 0 u;have h2:Bl (W.setCell ⟨w.heap.size+1,0,none⟩ u) (w.heap.size+1) 25 _:=h.2.1.put u;exact⟨ownsRow_setCell_other a (a:=⟨w.heap.size+1,1,none⟩) (own_ne a h2 (by decide)) v,⟨b.1,ownsRow_setCell_other b.2.1 (a:=⟨w.heap.size+1,1,none⟩) (own_ne b.2.1 h2 (by decide)) v,fun j n q x y=>ownsRow_setCell_other (b.2.2 j n q x y) (a:=⟨w.heap.size+1,1,none⟩) (own_ne (b.2.2 j n q x y) h2 (by decide)) v⟩,c.setCell (p:=⟨w.heap.size+1,1,none⟩) (by show w.heap.size<=w.heap.size+1;omega) v⟩
theorem GSt.node {n:PN}{kv:Value}(h:GSt w ins rv rn rs nv ns qs W)(hk:W.ownsRow w.heap.size 3 1 kv n.kids.length (intsV n.kids))(hg:W.grownBy w5 nv.ownBlock)(hown:w5.ownsRow w.heap.size 51 7 v' (ns.length+1) (zci (ns.zip qs)++nodeC (n,kv))) :
  GSt w ins rv rn rs v' (ns++[n]) (qs++[kv]) (w5.setCell ⟨w.heap.size+2,1,none⟩ v'):=by
 obtain⟨h1,h2,h3,h4,h5,h6⟩:=h;have z3:=zbr h3 h5.2.1 hg (by decide);have n0:=zdb h4 h5.2.1 hg (by decide);have hn:=h5.snoc hk hown (fun sz m u xs hu=>zdb hu h5.2.1 hg (by decide));refine⟨(zbr h1 h5.2.1 hg (by decide)).other (by omega) _,(zbr h2 h5.2.1 hg (by decide)).other (by omega) _,z3.put v',ownsRow_setCell_other n0 (a:=⟨w.heap.size+2,1,none⟩) (own_ne n0 z3 (by decide)) _,⟨hn.1,ownsRow_setCell_other hn.2.1 (a:=⟨w.heap.size+2,1,none⟩) (own_ne hn.2.1 z3 (by decide)) _,fun j n q a b=>ownsRow_setCell_other (hn.2.2 j n q a b) (a:=⟨w.heap.size+2,1,none⟩) (own_ne (hn.2.2 j n q a b) z3 (by decide)) _⟩,(h6.grown hg h6.size (fun b hb=>(h5.2.1.lt b hb).1)).setCell (p:=⟨w.heap.size+2,1,none⟩) (by show w.heap.size<=w.heap.size+2;omega) _⟩
end
end
section
open Go.RowKit
theorem zpy {rs:List (List Nat × Nat × Int)}{k:Nat}{x:List Nat × Nat × Int}(h:rs[k]?=some x):zb7 (zbh (rs.take (k+1)))=zb7 (zbh (rs.take k))++[.string (strOf x.1),.int .i64 x.2.2]:=by
 rw[zap rs k x h];unfold zbh zb7;rw[List.map_append,List.flatMap_append];rfl
theorem zpz {l m:List ByteArray}{ns:List PN}{k:Nat}{n:PN}(h:ns[k]?=some n):zbg l m (ns.take (k+1))=zbg l m (ns.take k)++[gNode l m n]:=by
 rw[zap ns k n h];unfold zbg;rw[List.map_append];rfl
theorem zke (l m:List ByteArray)(ns:List PN):(zbg l m ns).length=ns.length:=List.length_map _
theorem zts (l m:List ByteArray)(n:PN):(gNode l m n).kids=n.kids:=by
 unfold gNode;split<;>rfl
def z81 (rs:List PR)(ns:List PN)(w:World)(e:Ending)(w':World):Prop:=∃rv nv qs,e=.returned (.agg #[rv,nv])/\w'.ownsRow w.heap.size 53 2 rv rs.length (zb7 rs)/\NRow w.heap.size nv ns qs w'/\Below w.heap.size w w'
theorem z2d (rv nv cv:Value)(rs:List (List Nat × Nat × Int))(f:MF)(b:Nat)(w:World)(h:FileIn w rv nv cv rs f)(hC:COk f)(hr:rs.length<=10000000)(hn:f.nodes.length<=100000000)(hk:∀n,n ∈ f.nodes->n.kids.length<=100000000)
  (hnm:∀r,r ∈ rs->r.1.length<=2000000) (hnc:∀r,r ∈ f.calls->r.1.length<=2000000) (hF:FinAt w b (nmR rs)) :
  Calls Tryz.prog 93 #[.agg #[rv,nv,cv],finF b] w (z81 (zbh rs) (zbg (nmR rs) (nmC f) f.nodes) w):=by
 obtain⟨-,⟨a1,c1,rfl,-,ha1⟩,⟨-,a2,c2,rfl,ha2⟩,a3,c3,rfl,-,ha3⟩:=h;have HA1:=Lib.hid ha1;have HA2:=Lib.hid ha2;have HA3:=Lib.hid ha3;have HM:=Lib.hid hnm;have HMC:=Lib.hid hnc;have HK:=Lib.hid hk;have HCO:=Lib.hid hC;have HFI:=Lib.hid hF;clear ha1 ha2 ha3 hnm hnc hk hC hF;have H0:Hid (GSt w #[.slice a1 rs.length c1,.slice a2 f.nodes.length c2,.slice a3 f.calls.length c3] (.slice none 0 0) 0 (zb7 (zbh (rs.take 0))) (.slice none 0 0) [] [] (((w.alloc (.cells #[.slice a1 rs.length c1,.slice a2 f.nodes.length c2,.slice a3 f.calls.length c3] 88)).alloc (.cells #[.slice none 0 0,.slice none 0 0] 25)).alloc (.cells #[.slice none 0 0,.slice none 0 0] 25))):=Lib.hid ⟨(Bl.new w _ _).past.past,(Bl.new' (by simp)).past,Bl.new' (by simp),World.ownsRow_nil _ _ _ _,NRow.nil _ _,((zab w _).trans ((zab _ _).mono (by simp))).trans ((zab _ _).mono (by simp<;>omega))⟩;unfold finF;go_enter Tryz.func93,Tryz.ntmps93
 go_upto_region 2 with fail
 obtain⟨W0,hW0⟩:∃W0,((w.alloc (.cells #[.slice a1 rs.length c1,.slice a2 f.nodes.length c2,.slice a3 f.calls.length c3] 88)).alloc (.cells #[.slice none 0 0,.slice none 0 0] 25)).alloc (.cells #[.slice none 0 0,.slice none 0 0] 25)=W0:=⟨_,rfl⟩;rw[hW0] at H0;rw[hW0];clear hW0;have x0:=H0.out.1.cell (o:=0) (u:=.slice a1 rs.length c1) rfl;have xl0:=H0.out.1.lt;go_wp2
 go_loopw [13] (fun c wr=>∃(k:Nat) (ra:Option Addr) (rc:Nat),k<=rs.length/\c=.int .i64 k/\GSt w #[.slice a1 rs.length c1,.slice a2 f.nodes.length c2,.slice a3 f.calls.length c3] (.slice ra k rc) k (zb7 (zbh (rs.take k))) (.slice none 0 0) [] [] wr) (fun c _=>rs.length-(intOf c).toNat)
 case atStart=>exact⟨0,none,0,Nat.zero_le _,rfl,H0.out⟩
 case round=>
  clear x0 xl0;obtain⟨k,ra,rc,hk,rfl,hG⟩:=hrel;have hbs:=hG.2.2.2.2.2.size;have HB:=Lib.hid hG.2.2.2.2.2;have HG:=Lib.hid hG;by_cases hlt:k<rs.length
  ·obtain⟨x,hx⟩:∃x,rs[k]?=some x:=⟨_,List.getElem?_eq_getElem hlt⟩
   rcases HA1.out with hz|⟨ab,ao,rfl,hca⟩
   ·rw[hz] at hlt;exact absurd hlt (Nat.not_lt_zero _)
   obtain⟨e0,e1,e2,e3⟩:=zim hca hx HB.out;have k1:(k:Int)<(rs.length:Int):=by omega
   have HX:=Lib.hid (zpy hx);have hxs:(strOf x.1).size<=2000000:=by rw[zb1];exact HM.out x (List.mem_of_getElem? hx)
   have HCL:=Lib.hid (fun W=>zed (strOf x.1) W hxs);obtain⟨ir,hir,hzr0,hzr1,hzr2⟩:=info_parts zz0;have HW:=Lib.hid (Bl.new wr 173 #[.string (strOf x.1),.int .i64 (x.2.1:Int),.int .i64 x.2.2]);have HG1:=Lib.hid (hG.below (zab wr (.cells #[.string (strOf x.1),.int .i64 (x.2.1:Int),.int .i64 x.2.2] 173)));clear hca hx hG hxs
   go_upto_region 5 with fail
   obtain⟨W1,hW1⟩:∃W1,wr.alloc (.cells #[.string (strOf x.1),.int .i64 (x.2.1:Int),.int .i64 x.2.2] 173)=W1:=⟨_,rfl⟩;rw[hW1] at HW HG1;rw[hW1];obtain⟨R,hR⟩:∃R,wr.heap.size=R:=⟨_,rfl⟩;rw[hR] at HW;rw[hR];clear hW1 hR e0 e1 e2 e3 hbs HB;have hbs1:=HG1.out.2.2.2.2.2.size;have f0:=HW.out.cell (o:=0) (u:=.string (strOf x.1)) rfl;have f2:=HW.out.cell (o:=2) (u:=.int .i64 x.2.2) rfl;have fl:=HW.out.lt;have g0:=HG1.out.2.2.1.cell (o:=0) (u:=.slice ra k rc) rfl;have gl:=HG1.out.2.2.1.lt
   go_region_law (first
    |(go_simp;go_at_call 85;(refine(HCL.out _).mono ?_);rintro e w3 ⟨rfl,hb⟩;have hb3:Below W1.heap.size W1 w3:=Below.trans (by repeat (first|exact Below.refl _ _|refine Below.drew ?_)) (hb.mono (by simp));have hbs3:=hb3.size;have HW3:=Lib.hid (HW.out.below hb3);have HG3:=Lib.hid (HG1.out.below hb3);clear f0 f2 fl g0 gl hb hb3;have f3:=HW3.out.cell (o:=2) (u:=.int .i64 x.2.2) rfl;have fl3:=HW3.out.lt;have g3:=HG3.out.2.2.1.cell (o:=0) (u:=.slice ra k rc) rfl;have gl3:=HG3.out.2.2.1.lt)
    |(refine zaw (by rfl) _ _ 22 (by rfl) w.heap.size 53 ir _ 2 24 Tryz.underlying22 hir hzr0 hzr1 hzr2 (by rfl) (by decide) (.slice ra k rc) k _ (by simp[Act.eval]) (by refine zaa HG3.out.2.2.2.1 ?_;repeat (first|exact Below.refl _ _|refine Below.drew ?_|refine zae ?_ rfl _)) _ 1 1 [.string (strOf x.1),.int .i64 x.2.2] (by simp[Act.eval];rfl) (by rfl) (by refine Bl.news (t:=53) ?_;repeat (first|(refine Bl.new' ?_;simp;done)|refine Bl.drew ?_|refine Bl.past ?_)) (by simp[Value.oneCell']) (by unfold maxLen;omega) (by omega) (by simp;omega) ?_;intro a5 c5 w5 hown5 hgrow5 hat5;have HG5:=Lib.hid (GSt.rule (HG3.out.below (by repeat (first|exact Below.refl _ _|refine Below.drew ?_|refine zae ?_ rfl _))) hgrow5 hown5);have hm5:=GSt.mid (HG3.out.below (by repeat (first|exact Below.refl _ _|refine Below.drew ?_|refine zae ?_ rfl _))) hgrow5;have z0:=hm5.cell (o:=0) (u:=.slice ra k rc) rfl;have zf:=hm5.free 0;have zl:=hm5.lt;clear hown5 hgrow5 hat5 hm5))
   all_goals
    rw[<-HX.out] at HG5;go_wp2;go_roundw
    case rel=>exact⟨k+1,a5,c5,hlt,by go_num,HG5.out⟩
    case measure=>simp[intOf];omega
  ·obtain rfl:k=rs.length:=by omega
   have k1:¬(rs.length:Int)<(rs.length:Int):=by omega
   have HG2:Hid (GSt w #[.slice a1 rs.length c1,.slice a2 f.nodes.length c2,.slice a3 f.calls.length c3] (.slice ra rs.length rc) rs.length (zb7 (zbh rs)) (.slice none 0 0) (zbg (nmR rs) (nmC f) (f.nodes.take 0)) [] wr):=Lib.hid (by
    have:=HG.out;rw[List.take_length] at this;exact this)
   have x1:=HG2.out.1.cell (o:=1) (u:=.slice a2 f.nodes.length c2) rfl;have xl0:=HG2.out.1.lt;clear hG H0 HG HB hbs hlt hk;go_wp2
   go_loopw [32] (fun c wq=>∃(i:Nat) (na:Option Addr) (nc:Nat) (qs:List Value),i<=f.nodes.length/\c=.int .i64 i/\GSt w #[.slice a1 rs.length c1,.slice a2 f.nodes.length c2,.slice a3 f.calls.length c3] (.slice ra rs.length rc) rs.length (zb7 (zbh rs)) (.slice na i nc) (zbg (nmR rs) (nmC f) (f.nodes.take i)) qs wq) (fun c _=>f.nodes.length-(intOf c).toNat)
   case atStart=>exact⟨0,none,0,[],Nat.zero_le _,rfl,HG2.out⟩
   case round=>
    clear x1 xl0 k1 HG2;obtain⟨i,na,nc,qs,hi,rfl,hG⟩:=hrel;have hbs:=hG.2.2.2.2.2.size;have HB:=Lib.hid hG.2.2.2.2.2;have HG:=Lib.hid hG;by_cases hlt:i<f.nodes.length
    ·obtain⟨n,hn'⟩:∃n,f.nodes[i]?=some n:=⟨_,List.getElem?_eq_getElem hlt⟩
     rcases HA2.out with hz|⟨ab,ao,rfl,hca⟩
     ·rw[hz] at hlt;exact absurd hlt (Nat.not_lt_zero _)
     obtain⟨kv,d0,d1,d2,d3,d4,d5,d6,di,dl⟩:=(hca i n hn').kept HB.out (Nat.le_refl _);have hkl:=HK.out n (List.mem_of_getElem? hn');have la:=zac d0;have k1:(i:Int)<(f.nodes.length:Int):=by omega
     have HX:=Lib.hid (zpz (l:=nmR rs) (m:=nmC f) hn');have HNK:=Lib.hid hn';have DI:=Lib.hid di;obtain⟨ka,kc,rfl,-⟩:=di;clear hca hn' dl;have HLEN:Hid ((zbg (nmR rs) (nmC f) (f.nodes.take i)).length=i):=Lib.hid (by rw[zke,List.length_take];omega);obtain⟨ii,hii,hzi0,hzi1,hzi2⟩:=info_parts za3;obtain⟨ie,hie,hze0,hze1,hze2⟩:=info_parts zqq;have HN1:=Lib.hid (Bl.new wr 51 #[.int .i64 n.op,.slice ka n.kids.length kc,.int .i64 n.rule,.int .u64 n.s0,.int .u64 n.s1,.int .u64 n.s2,.int .u64 n.s3]);have HB1:=Lib.hid (zab wr (.cells #[.int .i64 n.op,.slice ka n.kids.length kc,.int .i64 n.rule,.int .u64 n.s0,.int .u64 n.s1,.int .u64 n.s2,.int .u64 n.s3] 51));have HSRC:=Lib.hid (DI.out.kept HB1.out (Nat.le_refl _)).src
     go_upto_region 10 with fail
     obtain⟨W1,hW1⟩:∃W1,wr.alloc (.cells #[.int .i64 n.op,.slice ka n.kids.length kc,.int .i64 n.rule,.int .u64 n.s0,.int .u64 n.s1,.int .u64 n.s2,.int .u64 n.s3] 51)=W1:=⟨_,rfl⟩;rw[hW1] at HN1 HB1 HSRC;rw[hW1];obtain⟨R,hR⟩:∃R,wr.heap.size=R:=⟨_,rfl⟩;rw[hR] at HN1 hbs;rw[hR];have n1:=HN1.out.cell (o:=1) (u:=.slice ka n.kids.length kc) rfl;have nl:=HN1.out.lt;clear hW1 d0 d1 d2 d3 d4 d5 d6 la hG
     go_upto_region 11 with(at_builtin;(refine zfn _ rfl _ _ 29 rfl w.heap.size 3 ii (.int .i64 0) 1 8 Tryz.underlying29 hii hzi0 hzi1 hzi2 rfl (by decide) rfl ka n.kids.length kc (intsV n.kids) rfl (by unfold intsV;rw[List.length_map,Nat.mul_one]) HSRC.out (ints_oneCell .i64 n.kids) (by unfold maxLen;omega) (by omega) (by omega) ?_);intro a5 c5 w5 hown5 hgrow5;have hb5:=zdc hgrow5;have HN5:=Lib.hid (HN1.out.below hb5);have n5:=HN5.out.cell (o:=1) (u:=.slice ka n.kids.length kc) rfl;have nf5:=HN5.out.free 1;have nl5:=HN5.out.lt;have HO5:=Lib.hid hown5;have HB5:=Lib.hid (HB1.out.trans (hb5.mono HB1.out.size));clear hown5 hgrow5 hb5)
     have HB2:=Lib.hid (HB5.out.setCell (p:=⟨R,1,none⟩) (by rw[hR];exact Nat.le_refl R) (.slice a5 n.kids.length c5));have HN2:Hid (Bl (w5.setCell ⟨R,1,none⟩ (.slice a5 n.kids.length c5)) R 51 #[.int .i64 n.op,.slice a5 n.kids.length c5,.int .i64 n.rule,.int .u64 n.s0,.int .u64 n.s1,.int .u64 n.s2,.int .u64 n.s3]):=Lib.hid (HN5.out.put _);have HO2:=Lib.hid (ownsRow_setCell_other HO5.out (a:=⟨R,1,none⟩) (own_ne HO5.out HN5.out (by decide)) (.slice a5 n.kids.length c5));obtain⟨W2,hW2⟩:∃W2,w5.setCell ⟨R,1,none⟩ (.slice a5 n.kids.length c5)=W2:=⟨_,rfl⟩;rw[hW2] at HB2 HN2 HO2;rw[hW2];have HG2:=Lib.hid (HG.out.below HB2.out);clear hW2 n1 nl n5 nf5 nl5 HN5 HO5 HB5 HN1 HB1 HSRC DI;have hs2:=HB2.out.size;rw[hR] at hs2;have b2:=HG2.out.1.cell (o:=2) (u:=.slice a3 f.calls.length c3) rfl;have bl:=HG2.out.1.lt;have y0:=HN2.out.cell (o:=0) (u:=.int .i64 n.op) rfl;have y1:=HN2.out.cell (o:=1) (u:=.slice a5 n.kids.length c5) rfl;have y3:=HN2.out.cell (o:=3) (u:=.int .u64 n.s0) rfl;have y4:=HN2.out.cell (o:=4) (u:=.int .u64 n.s1) rfl;have y5:=HN2.out.cell (o:=5) (u:=.int .u64 n.s2) rfl;have y6:=HN2.out.cell (o:=6) (u:=.int .u64 n.s3) rfl;have yf:=HN2.out.free 2;have yl:=HN2.out.lt;by_cases h2:n.op=2
     ·obtain⟨c,hcr,hcl⟩:=HCO.out.rule HNK.out h2
      obtain⟨x,hx⟩:∃x,f.calls[c]?=some x:=⟨_,List.getElem?_eq_getElem hcl⟩;rcases HA3.out with hz|⟨cb,co,rfl,hca⟩
      ·rw[hz] at hcl;exact absurd hcl (Nat.not_lt_zero _)
      have HBW:=Lib.hid (HG2.out.2.2.2.2.2);obtain⟨e0,-,e3⟩:=zj7 hca hx HBW.out;have y2:=HN2.out.cell (o:=2) (u:=.int .i64 n.rule) rfl;rw[hcr] at y2;have HNP:Hid (gNode (nmR rs) (nmC f) n=⟨n.op,n.kids,idxO (fndL (nmR rs) (strOf x.1)),n.s0,n.s1,n.s2,n.s3⟩):=Lib.hid (by
       have e:(nmC f).getD n.rule.toNat ByteArray.empty=strOf x.1:=by
        rw[hcr,Int.toNat_natCast,List.getD_eq_getElem?_getD,z34 hx];rfl
       unfold gNode;rw[if_pos h2,e])
      have hxs:(strOf x.1).size<=2000000:=by rw[zb1];exact HMC.out x (List.mem_of_getElem? hx)
      have HFN:=Lib.hid (zl2 (strOf x.1) b (nmR rs) W2 (HFI.out.below HBW.out) (by unfold maxLen;omega));obtain⟨z,hz⟩:∃z,idxO (fndL (nmR rs) (strOf x.1))=z:=⟨_,rfl⟩;rw[hz] at HFN HNP;have q1:(n.op == 2)=true:=by rw[h2];rfl
      have q2:(0:Int)<=(c:Int):=by omega
      have q3:(c:Int)<(f.calls.length:Int):=by omega
      have HN3:Hid (Bl (W2.setCell ⟨R,2,none⟩ (.int .i64 z)) R 51 #[.int .i64 n.op,.slice a5 n.kids.length c5,.int .i64 z,.int .u64 n.s0,.int .u64 n.s1,.int .u64 n.s2,.int .u64 n.s3]):=Lib.hid (HN2.out.put _);have HO3:=Lib.hid (ownsRow_setCell_other HO2.out (a:=⟨R,2,none⟩) (own_ne HO2.out HN2.out (by decide)) (.int .i64 z));have HG3:=Lib.hid (HG.out.below (HB2.out.setCell (p:=⟨R,2,none⟩) (by rw[hR];exact Nat.le_refl R) (.int .i64 z)));clear hca hx hxs hz h2 hcr
      go_upto_region 13 with(go_at_call 127;(with_reducible refine HFN.out.mono ?_);rintro e w3 ⟨rfl,hw3⟩;obtain rfl:=hw3.symm;clear hw3)
      clear b2 bl y0 y1 y2 y3 y4 y5 y6 yf yl e0 e3 HFN;obtain⟨W3,hW3⟩:∃W3,W2.setCell ⟨R,2,none⟩ (.int .i64 z)=W3:=⟨_,rfl⟩;rw[hW3] at HN3 HO3 HG3;rw[hW3];clear hW3 HG2 HO2 HN2 HB2;have hs3:=HG3.out.2.2.2.2.2.size;have g1:=HG3.out.2.2.1.cell (o:=1) (u:=.slice na i nc) rfl;have gl:=HG3.out.2.2.1.lt;have y0:=HN3.out.cell (o:=0) (u:=.int .i64 n.op) rfl;have y1:=HN3.out.cell (o:=1) (u:=.slice a5 n.kids.length c5) rfl;have y2:=HN3.out.cell (o:=2) (u:=.int .i64 z) rfl;have y3:=HN3.out.cell (o:=3) (u:=.int .u64 n.s0) rfl;have y4:=HN3.out.cell (o:=4) (u:=.int .u64 n.s1) rfl;have y5:=HN3.out.cell (o:=5) (u:=.int .u64 n.s2) rfl;have y6:=HN3.out.cell (o:=6) (u:=.int .u64 n.s3) rfl;have yl:=HN3.out.lt;have HCC:=Lib.hid (zg2 W3 (nodeC ((⟨n.op,n.kids,z,n.s0,n.s1,n.s2,n.s3⟩:PN),.slice a5 n.kids.length c5)) 51)
      go_wp2_with (at_builtin;(refine wpList_append_own _ rfl _ _ 23 rfl w.heap.size 51 ie _ 7 72 Tryz.underlying23 hie hze0 hze1 hze2 rfl (by decide) _ (zbg (nmR rs) (nmC f) (f.nodes.take i)).length _ rfl (zaa HG3.out.2.2.2.2.1.2.1 (zab W3 _)) ⟨_,0,none⟩ 1 1 (nodeC ((⟨n.op,n.kids,z,n.s0,n.s1,n.s2,n.s3⟩:PN),.slice a5 n.kids.length c5)) rfl rfl HCC.out (by simp[nodeC,Value.oneCell']) (by rw[HLEN.out];unfold maxLen;omega) (by rw[HLEN.out];omega) (by simp;omega) ?_);intro v6 w6 hown6 hgrow6 _;obtain⟨a6,c6,rfl⟩:=zad hown6;have HG4:=Lib.hid (GSt.node (n:=(⟨n.op,n.kids,z,n.s0,n.s1,n.s2,n.s3⟩:PN)) (HG3.out.below (zab W3 _)) (zaa HO3.out (zab W3 _)) hgrow6 hown6);have hm5:=GSt.mid2 (HG3.out.below (zab W3 _)) hgrow6;have z0:=hm5.cell (o:=1) (u:=.slice na i nc) rfl;have zf:=hm5.free 1;have zl:=hm5.lt;rw[HLEN.out] at HG4 ⊢;clear hown6 hgrow6 hm5)
      go_roundw
      case rel=>exact⟨i+1,a6,c6,_,hlt,by go_num,by
       have:=HG4.out;rw[HX.out,HNP.out];exact this⟩
      case measure=>simp[intOf];omega
     ·have HNP:Hid (gNode (nmR rs) (nmC f) n=n):=Lib.hid (if_neg h2)
      have q1:(n.op == 2)=false:=zaj h2;clear h2
      go_upto_region 13 with fail
      obtain⟨W3,rfl⟩:∃W3,W3=W2:=⟨_,rfl⟩;have HN3:=HN2;have HO3:=HO2;have HG3:=HG2;clear b2 bl yf;have y2:=HN3.out.cell (o:=2) (u:=.int .i64 n.rule) rfl;have hs3:=HG3.out.2.2.2.2.2.size;have g1:=HG3.out.2.2.1.cell (o:=1) (u:=.slice na i nc) rfl;have gl:=HG3.out.2.2.1.lt;have HCC:=Lib.hid (zg2 W3 (nodeC (n,.slice a5 n.kids.length c5)) 51)
      go_wp2_with (at_builtin;(refine wpList_append_own _ rfl _ _ 23 rfl w.heap.size 51 ie _ 7 72 Tryz.underlying23 hie hze0 hze1 hze2 rfl (by decide) _ (zbg (nmR rs) (nmC f) (f.nodes.take i)).length _ rfl (zaa HG3.out.2.2.2.2.1.2.1 (zab W3 _)) ⟨_,0,none⟩ 1 1 (nodeC (n,.slice a5 n.kids.length c5)) rfl rfl HCC.out (by simp[nodeC,Value.oneCell']) (by rw[HLEN.out];unfold maxLen;omega) (by rw[HLEN.out];omega) (by simp;omega) ?_);intro v6 w6 hown6 hgrow6 _;obtain⟨a6,c6,rfl⟩:=zad hown6;have HG4:=Lib.hid (GSt.node (n:=n) (HG3.out.below (zab W3 _)) (zaa HO3.out (zab W3 _)) hgrow6 hown6);have hm5:=GSt.mid2 (HG3.out.below (zab W3 _)) hgrow6;have z0:=hm5.cell (o:=1) (u:=.slice na i nc) rfl;have zf:=hm5.free 1;have zl:=hm5.lt;rw[HLEN.out] at HG4 ⊢;clear hown6 hgrow6 hm5)
      go_roundw
      case rel=>exact⟨i+1,a6,c6,_,hlt,by go_num,by
       have:=HG4.out;rw[HX.out,HNP.out];exact this⟩
      case measure=>simp[intOf];omega
    ·obtain rfl:i=f.nodes.length:=by omega
     have k1:¬(f.nodes.length:Int)<(f.nodes.length:Int):=by omega
     have HE:Hid (GSt w #[.slice a1 rs.length c1,.slice a2 f.nodes.length c2,.slice a3 f.calls.length c3] (.slice ra rs.length rc) rs.length (zb7 (zbh rs)) (.slice na f.nodes.length nc) (zbg (nmR rs) (nmC f) f.nodes) qs wr):=Lib.hid (by
      have:=HG.out;rw[List.take_length] at this;exact this)
     have g0:=HE.out.2.2.1.cell (o:=0) (u:=.slice ra rs.length rc) rfl;have g1:=HE.out.2.2.1.cell (o:=1) (u:=.slice na f.nodes.length nc) rfl;have gl:=HE.out.2.2.1.lt;have r0:=HE.out.2.1.cell (o:=0) (u:=.slice none 0 0) rfl;have r1:=HE.out.2.1.cell (o:=1) (u:=.slice none 0 0) rfl;have rf:=HE.out.2.1.free;have rl:=HE.out.2.1.lt;have HL:Hid ((zbh rs).length=rs.length):=Lib.hid (List.length_map _);clear hG HG HB hbs;have HF:=Lib.hid (HE.out.fin (.slice ra rs.length rc) (.slice na f.nodes.length nc));go_wp2;refine bodyPost_ret (v:=.agg #[.slice ra rs.length rc,.slice na f.nodes.length nc]) (by simp[results,Tryz.results93,go_sem,r0,r1]) rfl ?_;exact⟨_,_,qs,rfl,by rw[HL.out];exact HF.out.1,HF.out.2.1,HF.out.2.2⟩
end
section
open Go.RowKit
structure FileOk (rs:List (List Nat × Nat × Int)) (f:MF):Prop where
 ok:COk f
 rl:rs.length<=10000000
 cl:f.calls.length<=100000000
 nl:f.nodes.length<=100000000
 kl:∀n,n ∈ f.nodes->n.kids.length<=100000000
 rn:∀r,r ∈ rs->r.1.length<=2000000
 cn:∀r,r ∈ f.calls->r.1.length<=2000000
theorem FileOk.rs {rs:List (List Nat × Nat × Int)}{f:MF}(h:FileOk rs f):∀x,x ∈ nmR rs->x.size<=2000000:=fun x hx=>by
 obtain⟨r,hr,rfl⟩:=List.mem_map.1 hx;rw[zb1];exact h.rn r hr
theorem FileOk.cs {rs:List (List Nat × Nat × Int)}{f:MF}(h:FileOk rs f):∀x,x ∈ nmC f->x.size<=2000000:=fun x hx=>by
 obtain⟨r,hr,rfl⟩:=List.mem_map.1 hx;rw[zb1];exact h.cn r hr
def NameErr (c:Int)(x:List Nat × Nat)(w:World)(e:Ending)(w':World):Prop:=∃b,e=.returned (.tuple #[.agg #[.slice none 0 0,.slice none 0 0],.iface 126 (.pointer (some ⟨b,0,none⟩))])/\(Err.within b (strOf x.1) (.fault c (x.2:Int))).In w'/\Below w.heap.size w w'
def zym (rs:List PR)(ns:List PN)(w:World)(e:Ending)(w':World):Prop:=∃rv nv qs,e=.returned (.tuple #[.agg #[rv,nv],.nilIface])/\w'.ownsRow w.heap.size 53 2 rv rs.length (zb7 rs)/\NRow w.heap.size nv ns qs w'/\Below w.heap.size w w'
theorem WrongIs.some {x:List Nat × Nat}{c:Int}{w w':World}{e:Ending}{o:Option (List Nat × Nat)}(ho:o=.some x)(h:WrongIs o c w e w'):e=.returned (.tuple #[.string (strOf x.1),.iface 132 (.agg #[.int .i64 c,.int .i64 (x.2:Int)])])/\Below w.heap.size w w':=by subst ho;exact h
theorem WrongIs.none {c:Int}{w w':World}{e:Ending}{o:Option (List Nat × Nat)}(ho:o=.none)(h:WrongIs o c w e w'):e=.returned (.tuple #[.string ⟨#[]⟩,.nilIface])/\Below w.heap.size w w':=by subst ho;exact h
theorem NameErr.mk {c:Int}{x:List Nat × Nat}{w W:World}{B E:Nat}(hb:Below w.heap.size w W)(hE:Bl W E 128 #[.string (strOf x.1),.iface 132 (.agg #[.int .i64 c,.int .i64 (x.2:Int)])])(hB:w.heap.size<=B)(hl:B<E):NameErr c x w (.returned (.tuple #[.agg #[.slice none 0 0,.slice none 0 0],.iface 126 (.pointer (some ⟨E,0,none⟩))])) ((W.setCell ⟨B,0,none⟩ (.slice none 0 0)).setCell ⟨B,1,none⟩ (.slice none 0 0)):=by
 have h2:=(hE.other (c:=B) (o:=0) (by omega) (.slice none 0 0)).other (c:=B) (o:=1) (by omega) (.slice none 0 0);exact⟨E,rfl,⟨h2.cell (o:=0) rfl,h2.cell (o:=1) rfl,trivial⟩,(hb.setCell (p:=⟨B,0,none⟩) hB _).setCell (p:=⟨B,1,none⟩) hB _⟩
theorem ze4 {W:World}{base n B:Nat}{e t:TypeId}{size:Nat}{v u1 u2:Value}{xs:List Value}{cs:Array Value}(h:W.ownsRow base e size v n xs)(hB:Bl W B t cs)(he:e≠t):((W.setCell ⟨B,0,none⟩ u1).setCell ⟨B,1,none⟩ u2).ownsRow base e size v n xs:=
 ownsRow_setCell_other (ownsRow_setCell_other h (a:=⟨B,0,none⟩) (own_ne h hB he) u1) (a:=⟨B,1,none⟩) (own_ne h hB he) u2
theorem of_ok (rv nv cv:Value)(rs:List (List Nat × Nat × Int))(f:MF)(w:World)(h:FileIn w rv nv cv rs f)(hK:FileOk rs f)(hd:dupO rs=none)(hu:undO (nmR rs) f=none) :
  Calls Tryz.prog 58 #[.agg #[rv,nv,cv]] w (zym (zbh rs) (zbg (nmR rs) (nmC f) f.nodes) w):=by
 have HOK:=Lib.hid hK;have HD:=Lib.hid hd;have HU:=Lib.hid hu;clear hd hu;obtain⟨hm,⟨a1,c1,rfl,hc1,ha1⟩,⟨hm2,a2,c2,rfl,ha2⟩,a3,c3,rfl,hc3,ha3⟩:=h;have hfi:FileIn w (.slice a1 rs.length c1) (.slice a2 f.nodes.length c2) (.slice a3 f.calls.length c3) rs f:=⟨hm,⟨a1,c1,rfl,hc1,ha1⟩,⟨hm2,a2,c2,rfl,ha2⟩,a3,c3,rfl,hc3,ha3⟩;have HI:=Lib.hid hfi;clear hm hc1 ha1 hm2 ha2 hc3 ha3 hfi hK;have HX0:Hid (Bl ((w.alloc (.cells #[.slice a1 rs.length c1,.slice a2 f.nodes.length c2,.slice a3 f.calls.length c3] 88)).alloc (.cells #[.slice none 0 0,.slice none 0 0] 25)) w.heap.size 88 #[.slice a1 rs.length c1,.slice a2 f.nodes.length c2,.slice a3 f.calls.length c3]):=Lib.hid (Bl.new w _ _).past;have HG0:Hid (Bl ((w.alloc (.cells #[.slice a1 rs.length c1,.slice a2 f.nodes.length c2,.slice a3 f.calls.length c3] 88)).alloc (.cells #[.slice none 0 0,.slice none 0 0] 25)) (w.heap.size+1) 25 #[.slice none 0 0,.slice none 0 0]):=Lib.hid (Bl.new' (by simp));have HB0:=Lib.hid (zat w (.cells #[.slice a1 rs.length c1,.slice a2 f.nodes.length c2,.slice a3 f.calls.length c3] 88) (.cells #[.slice none 0 0,.slice none 0 0] 25));have HI0:=Lib.hid (HI.out.below HB0.out);go_enter Tryz.func58,Tryz.ntmps58
 go_upto_region 1 with fail
 obtain⟨W0,hW0⟩:∃W0,(w.alloc (.cells #[.slice a1 rs.length c1,.slice a2 f.nodes.length c2,.slice a3 f.calls.length c3] 88)).alloc (.cells #[.slice none 0 0,.slice none 0 0] 25)=W0:=⟨_,rfl⟩;rw[hW0] at HX0 HG0 HB0 HI0;rw[hW0];clear hW0;have c0:=HX0.out.cell (o:=0) (u:=.slice a1 rs.length c1) rfl;have c1':=HX0.out.cell (o:=1) (u:=.slice a2 f.nodes.length c2) rfl;have c2':=HX0.out.cell (o:=2) (u:=.slice a3 f.calls.length c3) rfl;have cl:=HX0.out.lt
 go_wp2_with (first
  |(go_at_call 90;(with_reducible refine(zto _ _ _ _ _ _ HI0.out (by have:=HOK.out.rl;omega)).mono ?_);rintro e w1 ⟨v1,rfl,hown,hb⟩;have HS:=Lib.hid (StrsAt.of_own hown);clear hown;have HX1:=Lib.hid (HX0.out.below hb);have HG1:=Lib.hid (HG0.out.below hb);have HI1:=Lib.hid (HI0.out.below hb);have HB1:=Lib.hid (HB0.out.trans (hb.mono HB0.out.size));  clear hb;clear c0 c1' c2' cl;have c0:=HX1.out.cell (o:=0) (u:=.slice a1 rs.length c1) rfl;have c1':=HX1.out.cell (o:=1) (u:=.slice a2 f.nodes.length c2) rfl;have c2':=HX1.out.cell (o:=2) (u:=.slice a3 f.calls.length c3) rfl;have cl:=HX1.out.lt)
  |(go_at_call 89;(with_reducible refine(ztn _ _ _ HS.out (by rw[zxx];have:=HOK.out.rl;omega) HOK.out.rs).mono ?_);rintro e w2 ⟨b,rfl,hF,-,hb⟩;have HF2:=Lib.hid hF;clear hF;have HX2:=Lib.hid (HX1.out.below hb);have HG2:=Lib.hid (HG1.out.below hb);have HI2:=Lib.hid (HI1.out.below hb);have HB2:=Lib.hid (HB1.out.trans (hb.mono HB1.out.size));  clear hb;clear c0 c1' c2' cl;have c0:=HX2.out.cell (o:=0) (u:=.slice a1 rs.length c1) rfl;have c1':=HX2.out.cell (o:=1) (u:=.slice a2 f.nodes.length c2) rfl;have c2':=HX2.out.cell (o:=2) (u:=.slice a3 f.calls.length c3) rfl;have cl:=HX2.out.lt)
  |(go_at_call 91;(with_reducible refine(z6g _ _ _ _ _ _ _ HI2.out (by have:=HOK.out.rl;omega) HOK.out.rn HF2.out).mono ?_);intro e w3 hwr;obtain⟨he,hb⟩:=hwr.none HD.out;subst he;clear hwr;have HF3:=Lib.hid (HF2.out.below hb);have HX3:=Lib.hid (HX2.out.below hb);have HG3:=Lib.hid (HG2.out.below hb);have HI3:=Lib.hid (HI2.out.below hb);have HB3:=Lib.hid (HB2.out.trans (hb.mono HB2.out.size));  clear hb;clear c0 c1' c2' cl;have c0:=HX3.out.cell (o:=0) (u:=.slice a1 rs.length c1) rfl;have c1':=HX3.out.cell (o:=1) (u:=.slice a2 f.nodes.length c2) rfl;have c2':=HX3.out.cell (o:=2) (u:=.slice a3 f.calls.length c3) rfl;have cl:=HX3.out.lt)
  |(go_at_call 51;(with_reducible refine(zsv _ _).mono ?_);rintro e w5 ⟨rfl,hw5⟩;obtain rfl:=hw5.symm;clear hw5)
  |(go_at_call 92;(with_reducible refine(z6h _ _ _ _ _ _ _ _ HI3.out HOK.out.cl HOK.out.cn HF3.out).mono ?_);intro e w4 hwr;obtain⟨he,hb⟩:=hwr.none HU.out;subst he;clear hwr;have HF4:=Lib.hid (HF3.out.below hb);have HX4:=Lib.hid (HX3.out.below hb);have HG4:=Lib.hid (HG3.out.below hb);have HI4:=Lib.hid (HI3.out.below hb);have HB4:=Lib.hid (HB3.out.trans (hb.mono HB3.out.size));  clear hb;clear c0 c1' c2' cl;have c0:=HX4.out.cell (o:=0) (u:=.slice a1 rs.length c1) rfl;have c1':=HX4.out.cell (o:=1) (u:=.slice a2 f.nodes.length c2) rfl;have c2':=HX4.out.cell (o:=2) (u:=.slice a3 f.calls.length c3) rfl;have cl:=HX4.out.lt)
  |(go_at_call 93;(with_reducible refine(z2d _ _ _ _ _ _ _ HI4.out HOK.out.ok HOK.out.rl HOK.out.nl HOK.out.kl HOK.out.rn HOK.out.cn HF4.out).mono ?_);rintro e w6 ⟨rv6,nv6,qs6,rfl,hR,hN,hb⟩;have HR6:=Lib.hid (zax hR HB4.out.size);have HN6:Hid (NRow w.heap.size nv6 (zbg (nmR rs) (nmC f) f.nodes) qs6 w6):=Lib.hid ⟨hN.1,zax hN.2.1 HB4.out.size,fun j n q x y=>zax (hN.2.2 j n q x y) HB4.out.size⟩;clear hR hN;obtain⟨ra6,rc6,rfl⟩:=zad HR6.out;obtain⟨na6,nc6,rfl⟩:=zad HN6.out.2.1;have HG6:=Lib.hid (HG4.out.below hb);have HB6:=Lib.hid (HB4.out.trans (hb.mono HB4.out.size));clear hb c0 c1' c2' cl;have g0:=HG6.out.cell (o:=0) (u:=.slice none 0 0) rfl;have g1:=HG6.out.cell (o:=1) (u:=.slice none 0 0) rfl;have gf:=HG6.out.free;have gl:=HG6.out.lt))
 refine bodyPost_ret (v:=.tuple #[.agg #[.slice ra6 (zbh rs).length rc6,.slice na6 (zbg (nmR rs) (nmC f) f.nodes).length nc6],.nilIface]) (by simp[results,Tryz.results58,go_sem,g0,g1]) rfl ?_;exact⟨_,_,qs6,rfl,ze4 HR6.out HG6.out (by decide),⟨HN6.out.1,ze4 HN6.out.2.1 HG6.out (by decide),fun j n q x y=>ze4 (HN6.out.2.2 j n q x y) HG6.out (by decide)⟩,(HB6.out.setCell (p:=⟨w.heap.size+1,0,none⟩) (Nat.le_succ _) _).setCell (p:=⟨w.heap.size+1,1,none⟩) (Nat.le_succ _) _⟩
end
section
theorem z2e (l:List Nat):∀(n p:Nat),p<=l.length->l.length-p<=n->∀t,t ∈ strm l p->t.text.length<=l.length:=by
 intro n
 induction n with
 |zero=>
  intro p hp hn t ht;cases h:nextL l p with
  |error k=>rw[zd0 h] at ht;obtain rfl:=List.mem_singleton.1 ht;exact Nat.zero_le _
  |ok y=>
   obtain⟨u,m⟩:=y;have hx:=(ze2 l p u m h).1;rcases zbz l p hp u m h with⟨h0,hm⟩|⟨h0,h1,h2⟩
   ·rw[zcp h h0] at ht
    obtain rfl:=List.mem_singleton.1 ht;omega
   ·omega
 |succ n ih=>
  intro p hp hn t ht;cases h:nextL l p with
  |error k=>rw[zd0 h] at ht;obtain rfl:=List.mem_singleton.1 ht;exact Nat.zero_le _
  |ok y=>
   obtain⟨u,m⟩:=y;have hx:=(ze2 l p u m h).1;rcases zbz l p hp u m h with⟨h0,hm⟩|⟨h0,h1,h2⟩
   ·rw[zcp h h0] at ht
    obtain rfl:=List.mem_singleton.1 ht;omega
   ·rw[zao h h0 ⟨h1,h2⟩] at ht
    rcases List.mem_cons.1 ht with rfl|ht
    ·omega
    ·exact ih m h2 (by omega) t ht
theorem ztt {st:Bool}{F:List Tok->MF->PO}(hG:Grow 0 2 F){ts a:List Tok}{f g:MF}(h:defL st F ts f=.ok a g):g.nodes.length+wt a<=f.nodes.length+wt ts:=by
 unfold defL at h;split at h
 ·rename_i k1
  have t1:=zb6 (ts:=ts) (by omega);obtain⟨b,k,hb,hk⟩:=zcr h;have e1:b=ts.tail/\k=f:=by
   unfold acc at hb;split at hb
   ·cases hb
   ·cases hb;exact⟨rfl,rfl⟩
  obtain⟨rfl,rfl⟩:=e1;split at hk
  ·rename_i k2
   have t2:=zb6 (ts:=ts.tail) (by omega);obtain⟨c,j,hc,hj⟩:=zcr hk;have e2:c=ts.tail.tail/\j=k:=by
    unfold acc at hc;split at hc
    ·cases hc
    ·cases hc;exact⟨rfl,rfl⟩
   obtain⟨rfl,rfl⟩:=e2;have hg:=hG ts.tail.tail j;rw[hj] at hg;have:=hg.2.2.2.2.1;omega
  ·cases hk
 ·cases h
theorem zkf {st:Bool}{F:List Tok->MF->PO}(hG:Grow 0 2 F):∀(n:Nat) (ts:List Tok) (f g:MF) (rs rs':List (List Nat × Nat × Int)),defsL st F n ts f rs=.ok rs' g->g.nodes.length<=f.nodes.length+wt ts
 |0,_,_,_,_,_,h=>by cases h
 |n+1,ts,f,g,rs,rs',h=>by
  unfold defsL at h;cases hd:defL st F ts f with
  |bad a dp=>rw[hd] at h;cases h
  |ok a k=>
   have hc:=ztt hG hd;rw[hd] at h;dsimp only at h;by_cases h0:kd a=0
   ·rw[if_pos h0] at h
    cases h;omega
   ·rw[if_neg h0] at h
    have:=zkf hG n a k g _ _ h;omega
def TxB (B:Nat)(t:Tok):Prop:=t.text.length<=B
def FiQ (B:Nat)(f:MF):Prop:=COk f/\(∀n,n ∈ f.nodes->n.kids.length<=B)/\∀c,c ∈ f.calls->c.1.length<=B
theorem z82 (B:Nat)(hB:1<=B):Stp B (TxB B) (FiQ B) where
 add f n h hn hk:=⟨h.1.add hn,fun m hm=>by
  rcases List.mem_append.1 hm with hm|hm
  ·exact h.2.1 m hm
  ·obtain rfl:=List.mem_singleton.1 hm
   exact hk,h.2.2⟩
 call f t h ht _:=⟨h.1.call t,fun m hm=>by
  rcases List.mem_append.1 hm with hm|hm
  ·exact h.2.1 m hm
  ·obtain rfl:=List.mem_singleton.1 hm
   exact Nat.zero_le _,fun c hc=>by
  rcases List.mem_append.1 hc with hc|hc
  ·exact h.2.2 c hc
  ·obtain rfl:=List.mem_singleton.1 hc
   exact ht⟩
 txt _ h:=h
 pos:=hB
theorem z66 {s:ByteArray}{rs:List (List Nat × Nat × Int)}{f:MF}(hs:s.size<=1050000)(h:zfb (bts s)=.ok rs f):FileOk rs f:=by
 have hb:=znw hs h;have hl:=zr3 s;have hr:=zl6 _ _ _ _ _ _ h;have hn:=zkf (Gr.expr 200 true) _ _ _ _ _ _ h;obtain⟨hw,-,-⟩:=zgu (bts s) _ 0 (Nat.zero_le _) (Nat.le_refl _);rw[zag] at hw;have e1:([]:List (List Nat × Nat × Int)).length=0:=rfl;have e2:(⟨[],[]⟩:MF).nodes.length=0:=rfl;have hT:TkA 1050002 (TxB 1050002) (strm (bts s) 0):=⟨by omega,fun t ht=>by
  have:=z2e (bts s) _ 0 (Nat.zero_le _) (Nat.le_refl _) t ht;rw[zag] at this;show t.text.length<=_;omega⟩
 obtain⟨h1,h2,h3,h4⟩:=z1x (z82 1050002 (by decide)) ⟨COk.nil,(fun n hn=>by cases hn),(fun c hc=>by cases hc)⟩ hT h;exact⟨h2,by omega,hb.2,by omega,fun n hn=>by have:=h3 n hn;omega,fun r hr=>by
  obtain⟨t,ht,-,e,-⟩:=h1 r hr;rw[e];have:t.text.length<=1050002:=ht;omega,fun r hr=>by have:=h4 r hr;omega⟩
end
section
open Go.RowKit
theorem GotF.file {W:World}{va:Option Addr}{vc:Nat}{na:Option Addr}{nc:Nat}{ca:Option Addr}{cc:Nat}{rs:List (List Nat × Nat × Int)}{f:MF}(h:GotF W va vc na nc ca cc rs f):FileIn W (.slice va rs.length vc) (.slice na f.nodes.length nc) (.slice ca f.calls.length cc) rs f:=h
def GErr (er:Err)(w:World)(e:Ending)(w':World):Prop:=e=.returned (.tuple #[.agg #[.slice none 0 0,.slice none 0 0],er.val])/\er.In w'/\Below w.heap.size w w'
theorem GErr.put {er:Err}{w W:World}{B:Nat}(hb:Below w.heap.size w W)(hB:w.heap.size<=B)(hE:∀W',(∀b,b≠B->W'.heap[b]?=W.heap[b]?)->er.In W'):GErr er w (.returned (.tuple #[.agg #[.slice none 0 0,.slice none 0 0],er.val])) ((W.setCell ⟨B,0,none⟩ (.slice none 0 0)).setCell ⟨B,1,none⟩ (.slice none 0 0)):=
 ⟨rfl,hE _ (fun b h=>by rw[heap_setCell_other _ _ _ _ h,heap_setCell_other _ _ _ _ h]),(hb.setCell (p:=⟨B,0,none⟩) hB _).setCell (p:=⟨B,1,none⟩) hB _⟩
theorem NRow.mono {base base':Nat}{v:Value}{ns:List PN}{qs:List Value}{w:World}(h:NRow base v ns qs w)(hb:base'<=base):NRow base' v ns qs w:=⟨h.1,zax h.2.1 hb,fun j n q x y=>zax (h.2.2 j n q x y) hb⟩
theorem z7p {rs:List (List Nat × Nat × Int)}{f:MF}(h:FileOk rs f):∀r,r ∈ zbh rs->r.name.size<=2000000:=fun r hr=>by
 obtain⟨x,hx,rfl⟩:=List.mem_map.1 hr;show(strOf x.1).size<=_;rw[zb1];exact h.rn x hx
theorem z7q {rs:List (List Nat × Nat × Int)}{f:MF}(h:FileOk rs f):∀n,n ∈ zbg (nmR rs) (nmC f) f.nodes->n.kids.length<=maxLen:=fun n hn=>by
 obtain⟨x,hx,rfl⟩:=List.mem_map.1 hn;rw[zts];have:=h.kl x hx;unfold maxLen;omega
theorem z4a (s:ByteArray)(w:World)(hl:SignsAt w)(hs:s.size<=1050000){rs:List (List Nat × Nat × Int)}{f:MF}(hO:zfb (bts s)=.ok rs f)(hd:dupO rs=none)(hu:undO (nmR rs) f=none)(hk:chkL (zbh rs) (zbg (nmR rs) (nmC f) f.nodes)=.ok) :
  Calls Tryz.prog 28 #[.string s] w (zym (zbh rs) (zbg (nmR rs) (nmC f) f.nodes) w):=by
 have HP:=Lib.hid fun(W:World) (hb:Below w.heap.size w W)=>(ztz s W (hl.kept hb (Nat.le_refl _)) (by omega)).mono fun e w' h=>z2u (by
  rw[z1r,hO] at h;exact h)
 have HOK:=Lib.hid (z66 hs hO);have HB0:=Lib.hid (zab w (.cells #[.slice none 0 0,.slice none 0 0] 25));have HG0:=Lib.hid (Bl.new w 25 #[.slice none 0 0,.slice none 0 0]);have HD:=Lib.hid hd;have HU:=Lib.hid hu;have HKO:=Lib.hid hk;clear hO hl hs hd hu hk;go_enter Tryz.func28,Tryz.ntmps28
 go_upto_region 4 with(go_at_call 57;(with_reducible refine(HP.out _ HB0.out).mono ?_);rintro e w1 ⟨va,vc,na,nc,ca,cc,rfl,hF,hb⟩;have hn:=zab w1 (.cells #[.slice va rs.length vc,.slice na f.nodes.length nc,.slice ca f.calls.length cc] 88);have hbn:=hb.trans (hn.mono hb.size);have HF1:=Lib.hid (hF.below hn).file;have HX1:=Lib.hid (Bl.new w1 88 #[.slice va rs.length vc,.slice na f.nodes.length nc,.slice ca f.calls.length cc]);have HG1:=Lib.hid (HG0.out.below hbn);have HB1:=Lib.hid (HB0.out.trans (hbn.mono HB0.out.size));clear hF hb hn hbn)
 obtain⟨W1,hW1⟩:∃W1,w1.alloc (.cells #[.slice va rs.length vc,.slice na f.nodes.length nc,.slice ca f.calls.length cc] 88)=W1:=⟨_,rfl⟩;rw[hW1] at HF1 HX1 HG1 HB1;obtain⟨F,hF⟩:∃F,w1.heap.size=F:=⟨_,rfl⟩;rw[hF] at HX1;rw[hW1,hF];clear hW1 hF;have c0:=HX1.out.cell (o:=0) (u:=.slice va rs.length vc) rfl;have c1:=HX1.out.cell (o:=1) (u:=.slice na f.nodes.length nc) rfl;have c2:=HX1.out.cell (o:=2) (u:=.slice ca f.calls.length cc) rfl;have cl:=HX1.out.lt
 go_upto_region 7 with(go_at_call 58;(with_reducible refine(of_ok _ _ _ rs f _ HF1.out HOK.out HD.out HU.out).mono ?_);rintro e w2 ⟨rv2,nv2,qs2,rfl,hR,hN,hb⟩;obtain⟨ra2,rc2,rfl⟩:=zad hR;obtain⟨na2,nc2,rfl⟩:=zad hN.2.1;have hn:=zab w2 (.cells #[.slice ra2 (zbh rs).length rc2,.slice na2 (zbg (nmR rs) (nmC f) f.nodes).length nc2] 25);have hbn:=hb.trans (hn.mono hb.size);have HR2:=Lib.hid (zax (zaa hR hn) HB1.out.size);have HN2:=Lib.hid (NRow.grown (NRow.mono hN HB1.out.size) hn);have HY2:=Lib.hid (Bl.new w2 25 #[.slice ra2 (zbh rs).length rc2,.slice na2 (zbg (nmR rs) (nmC f) f.nodes).length nc2]);have HG2:=Lib.hid (HG1.out.below hbn);have HB2:=Lib.hid (HB1.out.trans (hbn.mono HB1.out.size));clear hR hN hb hn hbn c0 c1 c2 cl)
 obtain⟨W2,hW2⟩:∃W2,w2.alloc (.cells #[.slice ra2 (zbh rs).length rc2,.slice na2 (zbg (nmR rs) (nmC f) f.nodes).length nc2] 25)=W2:=⟨_,rfl⟩;rw[hW2] at HR2 HN2 HY2 HG2 HB2;obtain⟨Y,hY⟩:∃Y,w2.heap.size=Y:=⟨_,rfl⟩;rw[hY] at HY2;rw[hW2,hY];clear hW2 hY;have hlr:(zbh rs).length<=maxLen:=by have:=HOK.out.rl;unfold zbh maxLen;rw[List.length_map];omega
 have hln:(zbg (nmR rs) (nmC f) f.nodes).length<=maxLen:=by have:=HOK.out.nl;rw[zke];unfold maxLen;omega
 have HRI:=Lib.hid (RulesIn.of_own HR2.out hlr);have HNI:=Lib.hid (HN2.out.nodes hln (z7q HOK.out));have HSZ:=Lib.hid (z7p HOK.out);have y0:=HY2.out.cell (o:=0) (u:=.slice ra2 (zbh rs).length rc2) rfl;have y1:=HY2.out.cell (o:=1) (u:=.slice na2 (zbg (nmR rs) (nmC f) f.nodes).length nc2) rfl;have yl:=HY2.out.lt;clear hlr hln;have HCK:=Lib.hid (zy3 _ _ _ _ _ HRI.out HNI.out HSZ.out);rw[HKO.out] at HCK;have HCK:Hid (Calls Tryz.prog 59 #[.agg #[.slice ra2 (zbh rs).length rc2,.slice na2 (zbg (nmR rs) (nmC f) f.nodes).length nc2]] W2 fun e w'=>e=.returned .nilIface/\Below W2.heap.size W2 w'):=HCK
 go_wp2_with (go_at_call 59;(with_reducible refine HCK.out.mono ?_);rintro e w3 ⟨rfl,hb⟩;have HR3:=Lib.hid (zaa HR2.out hb);have HN3:=Lib.hid (HN2.out.grown hb);have HY3:=Lib.hid (HY2.out.below hb);have HG3:=Lib.hid (HG2.out.below hb);have HB3:=Lib.hid (HB2.out.trans (hb.mono HB2.out.size));clear hb y0 y1 yl;have y0:=HY3.out.cell (o:=0) (u:=.slice ra2 (zbh rs).length rc2) rfl;have y1:=HY3.out.cell (o:=1) (u:=.slice na2 (zbg (nmR rs) (nmC f) f.nodes).length nc2) rfl;have yl:=HY3.out.lt;have g0:=HG3.out.cell (o:=0) (u:=.slice none 0 0) rfl;have g1:=HG3.out.cell (o:=1) (u:=.slice none 0 0) rfl;have gf:=HG3.out.free;have gl:=HG3.out.lt)
 refine bodyPost_ret (v:=.tuple #[.agg #[.slice ra2 (zbh rs).length rc2,.slice na2 (zbg (nmR rs) (nmC f) f.nodes).length nc2],.nilIface]) (by simp[results,Tryz.results28,go_sem,g0,g1]) rfl ?_;exact⟨_,_,qs2,rfl,ze4 HR3.out HG3.out (by decide),⟨HN3.out.1,ze4 HN3.out.2.1 HG3.out (by decide),fun j n q x y=>ze4 (HN3.out.2.2 j n q x y) HG3.out (by decide)⟩,(HB3.out.setCell (p:=⟨w.heap.size,0,none⟩) (Nat.le_refl _) _).setCell (p:=⟨w.heap.size,1,none⟩) (Nat.le_refl _) _⟩
end
end Go.Proofs.YthhppmehhdlmnaaGreatDoor
