/- The state of resolve's grammar while its rows grow. resolve's grammar. -/
import Derived.Deep.RegionLaw
import Derived.Deep.Cut
import Derived.Test.YtmopdlbpkiaoeaaGreatDoorPqL
import Derived.Test.YtmopdlbpkiaoeaaGreatDoorPqRA
set_option maxRecDepth 100000
set_option maxHeartbeats 8000000
open Go.IntKind renaming i64->jd, u64->jg
open Go.Value renaming int->je, slice->jf, string->jh
namespace Go.Proofs.YtmopdlbpkiaoeaaGreatDoor
open Go.Lib renaming hid->qaa, ownsRow_kind->qb5
open Go.Proofs.Tryz renaming underlying23->qdq
open Go.RowKit.Below renaming drew->qak, refl->qaf
open List renaming getElem?_eq_getElem->qae, length_map->qaw, map_append->qa5, mem_of_getElem?->qan, take_length->qbz
open Nat renaming le_refl->qac, not_lt_zero->qa3
section
open Go.RowKit
theorem zf6 {P:Program}(w:World){ops:Array Oper}{rest:List Oper}{o:Oper}{a:Act}{Q:Exit->Act->World->Prop}(hgd:o.guard=none)(s x:Operand)(t:TypeId)
  (ho:o.op=.call { callee:=.builtin .append,args:=#[s,x],argTypes:=#[t,t] })
  (base:Nat) (e:TypeId) (i:TypeInfo) (z:Value) (size bytes:Nat) (ht:P.underlying t=some (.slice e)) (hi:P.info? e=some i) (hz:i.zero=some z)
  (hsize:i.size=size) (hby:i.bytes=bytes) (hzs:z.cells.size=size) (hsz:0<size) (hs:a.eval s=jf none 0 0)
  (ka:Option Addr) (m c:Nat) (news:List Value) (hx:a.eval x=jf ka m c) (hl:news.length=m*size) (ha:m=0∨∃b off,ka=some ⟨b,off,none⟩/\∀j u,news[j]?=some u->w.cell? ⟨b,off+j,none⟩=some u) (h1:∀u ∈ news,u.oneCell'=true)
  (h63:m<=maxLen) (hbytes:m*bytes<=140737488355328) (hbase:base<=w.heap.size)
  (h:∀a' c' w',w'.ownsRow base e size (jf a' m c') m news->w.grownBy w' none->wpList P ops Q rest (a.put o.dst (jf a' m c')) w'):wpList P ops Q (o::rest) a w:=by
 refine wpList_plain hgd fun K hK=>?_
 obtain⟨v',w',hr,h2,h3,-⟩:=zh3 (P:=P) w base t o.type e i z size bytes ht hi hz hsize hby hzs hsz ka m c news hl ha h1 h63 hbytes hbase;obtain⟨a',c',rfl⟩:∃a' c',v'=jf a' m c':=by
  rcases h2.2 with⟨e,e0⟩|⟨g,cap,cur,e,-⟩
  ·exact⟨none,0,by rw[e,e0]⟩
  ·exact⟨_,_,e⟩
 unfold Oper.wp execOp;simp only[ho,resolve,invoke,builtin,Sem.run_bind,Sem.run_pure,Result.andThen_ok,List.map_toArray,List.map_cons,List.map_nil,hs,hx,hr];exact hK _ _ (h a' c' w' h2 h3)
def GSt (w:World)(ins:Array Value)(rv:Value)(rn:Nat)(rs:List Value)(nv:Value)(ns:List PN)(qs:List Value)(wr:World):Prop:=
 Bl wr w.heap.size 46 ins/\Bl wr (w.heap.size+1) 25 #[jf none 0 0,jf none 0 0]/\Bl wr (w.heap.size+2) 25 #[rv,nv]/\wr.ownsRow w.heap.size 32 2 rv rn rs/\NRow w.heap.size nv ns qs wr/\Below w.heap.size w wr
section
variable {w wr W w5:World} {ins:Array Value} {rv nv v':Value} {rn:Nat} {rs elem:List Value} {ns:List PN} {qs:List Value}
theorem GSt.below (h:GSt w ins rv rn rs nv ns qs wr)(hb:Below wr.heap.size wr W):GSt w ins rv rn rs nv ns qs W:=
 ⟨h.1.below hb,h.2.1.below hb,h.2.2.1.below hb,zab h.2.2.2.1 hb,h.2.2.2.2.1.grown hb,h.2.2.2.2.2.trans (hb.mono h.2.2.2.2.2.size)⟩
theorem zcm {w w':World}{base b2 n m:Nat}{e e':TypeId}{size sz2:Nat}{v u:Value}{xs ys:List Value}(h:w.ownsRow base e size v n xs)(k:w.ownsRow b2 e' sz2 u m ys)(hg:w.grownBy w' u.ownBlock)(he:e≠e'):w'.ownsRow base e size v n xs:=
 zbl h hg (fun g hv=>qb5 k g hv) he
theorem zbc {w w':World}{b b2 m:Nat}{t e':TypeId}{sz2:Nat}{u:Value}{cs:Array Value}{ys:List Value}(h:Bl w b t cs)(k:w.ownsRow b2 e' sz2 u m ys)(hg:w.grownBy w' u.ownBlock)(he:t≠e'):Bl w' b t cs:=
 h.grown hg fun g hv=>by
  obtain⟨c,fz,q⟩:=qb5 k g hv;exact⟨c,e',fz,q,he⟩
theorem GSt.rule (h:GSt w ins rv rn rs nv ns qs W)(hg:W.grownBy w5 rv.ownBlock)(hown:w5.ownsRow w.heap.size 32 2 v' (rn+1) (rs++elem)) :
  GSt w ins v' (rn+1) (rs++elem) nv ns qs (w5.setCell ⟨w.heap.size+2,0,none⟩ v'):=by
 obtain⟨h1,h2,h3,h4,h5,h6⟩:=h;have z3:=zbc h3 h4 hg ja;have n1:=zcm h5.2.1 h4 hg ja;have n2:∀(j:Nat) (n:PN) (q:Value),ns[j]?=some n->qs[j]?=some q->w5.ownsRow w.heap.size 3 1 q n.kids.length (intsV n.kids):=fun j n q a b=>zcm (h5.2.2 j n q a b) h4 hg ja
 refine⟨(zbc h1 h4 hg ja).other U _,(zbc h2 h4 hg ja).other U _,z3.put v',ownsRow_setCell_other hown (a:=⟨w.heap.size+2,0,none⟩) (zaq hown z3 ja) _,⟨h5.1,ownsRow_setCell_other n1 (a:=⟨w.heap.size+2,0,none⟩) (zaq n1 z3 ja) _,fun j n q a b=>ownsRow_setCell_other (n2 j n q a b) (a:=⟨w.heap.size+2,0,none⟩) (zaq (n2 j n q a b) z3 ja) _⟩,(h6.grown hg h6.size (fun b hb=>(h4.lt b hb).1)).setCell (p:=⟨w.heap.size+2,0,none⟩) (by show w.heap.size<=w.heap.size+2;omega) _⟩
theorem GSt.mid (h:GSt w ins rv rn rs nv ns qs W)(hg:W.grownBy w5 rv.ownBlock):Bl w5 (w.heap.size+2) 25 #[rv,nv]:=zbc h.2.2.1 h.2.2.2.1 hg ja
theorem GSt.mid2 (h:GSt w ins rv rn rs nv ns qs W)(hg:W.grownBy w5 nv.ownBlock):Bl w5 (w.heap.size+2) 25 #[rv,nv]:=zbc h.2.2.1 h.2.2.2.2.1.2.1 hg ja
theorem GSt.put (h:GSt w ins rv rn rs nv ns qs W)(o:Nat)(u:Value):(W.setCell ⟨w.heap.size+1,o,none⟩ u).ownsRow w.heap.size 32 2 rv rn rs/\NRow w.heap.size nv ns qs (W.setCell ⟨w.heap.size+1,o,none⟩ u)/\Below w.heap.size w (W.setCell ⟨w.heap.size+1,o,none⟩ u):=by
 obtain⟨-,h2,-,h4,h5,h6⟩:=h;exact⟨ownsRow_setCell_other h4 (a:=⟨w.heap.size+1,o,none⟩) (zaq h4 h2 ja) u,⟨h5.1,ownsRow_setCell_other h5.2.1 (a:=⟨w.heap.size+1,o,none⟩) (zaq h5.2.1 h2 ja) u,fun j n q a b=>ownsRow_setCell_other (h5.2.2 j n q a b) (a:=⟨w.heap.size+1,o,none⟩) (zaq (h5.2.2 j n q a b) h2 ja) u⟩,h6.setCell (p:=⟨w.heap.size+1,o,none⟩) (by show w.heap.size<=w.heap.size+1;omega) u⟩
theorem GSt.fin (h:GSt w ins rv rn rs nv ns qs W)(u v:Value):((W.setCell ⟨w.heap.size+1,0,none⟩ u).setCell ⟨w.heap.size+1,1,none⟩ v).ownsRow w.heap.size 32 2 rv rn rs/\NRow w.heap.size nv ns qs ((W.setCell ⟨w.heap.size+1,0,none⟩ u).setCell ⟨w.heap.size+1,1,none⟩ v)/\Below w.heap.size w ((W.setCell ⟨w.heap.size+1,0,none⟩ u).setCell ⟨w.heap.size+1,1,none⟩ v):=by
 obtain⟨a,b,c⟩:=h.put 0 u;have h2:Bl (W.setCell ⟨w.heap.size+1,0,none⟩ u) (w.heap.size+1) 25 _:=h.2.1.put u;exact⟨ownsRow_setCell_other a (a:=⟨w.heap.size+1,1,none⟩) (zaq a h2 ja) v,⟨b.1,ownsRow_setCell_other b.2.1 (a:=⟨w.heap.size+1,1,none⟩) (zaq b.2.1 h2 ja) v,fun j n q x y=>ownsRow_setCell_other (b.2.2 j n q x y) (a:=⟨w.heap.size+1,1,none⟩) (zaq (b.2.2 j n q x y) h2 ja) v⟩,c.setCell (p:=⟨w.heap.size+1,1,none⟩) (by show w.heap.size<=w.heap.size+1;omega) v⟩
theorem GSt.node {n:PN}{kv:Value}(h:GSt w ins rv rn rs nv ns qs W)(hk:W.ownsRow w.heap.size 3 1 kv n.kids.length (intsV n.kids))(hg:W.grownBy w5 nv.ownBlock)(hown:w5.ownsRow w.heap.size 54 7 v' (ns.length+1) (zbs (ns.zip qs)++nodeC (n,kv))) :
  GSt w ins rv rn rs v' (ns++[n]) (qs++[kv]) (w5.setCell ⟨w.heap.size+2,1,none⟩ v'):=by
 obtain⟨h1,h2,h3,h4,h5,h6⟩:=h;have z3:=zbc h3 h5.2.1 hg ja;have n0:=zcm h4 h5.2.1 hg ja;have hn:=h5.snoc hk hown (fun sz m u xs hu=>zcm hu h5.2.1 hg ja);refine⟨(zbc h1 h5.2.1 hg ja).other U _,(zbc h2 h5.2.1 hg ja).other U _,z3.put v',ownsRow_setCell_other n0 (a:=⟨w.heap.size+2,1,none⟩) (zaq n0 z3 ja) _,⟨hn.1,ownsRow_setCell_other hn.2.1 (a:=⟨w.heap.size+2,1,none⟩) (zaq hn.2.1 z3 ja) _,fun j n q a b=>ownsRow_setCell_other (hn.2.2 j n q a b) (a:=⟨w.heap.size+2,1,none⟩) (zaq (hn.2.2 j n q a b) z3 ja) _⟩,(h6.grown hg h6.size (fun b hb=>(h5.2.1.lt b hb).1)).setCell (p:=⟨w.heap.size+2,1,none⟩) (by show w.heap.size<=w.heap.size+2;omega) _⟩
end
end
section
open Go.RowKit
theorem zjq {rs:List (List Nat × Nat × Int)}{k:Nat}{x:List Nat × Nat × Int}(h:rs[k]?=some x):zb5 (zam (rs.take (k+1)))=zb5 (zam (rs.take k))++[jh (strOf x.1),je jd x.2.2]:=by
 rw[za3 rs k x h];unfold zam zb5;rw[qa5,List.flatMap_append];rfl
theorem zjr {l m:List ByteArray}{ns:List PN}{k:Nat}{n:PN}(h:ns[k]?=some n):zan l m (ns.take (k+1))=zan l m (ns.take k)++[gNode l m n]:=by
 rw[za3 ns k n h];unfold zan;rw[qa5];rfl
theorem zc1 (l m:List ByteArray)(ns:List PN):(zan l m ns).length=ns.length:=qaw _
theorem zk8 (l m:List ByteArray)(n:PN):(gNode l m n).kids=n.kids:=by
 unfold gNode;split<;>rfl
def z6w (rs:List PR)(ns:List PN)(w:World)(e:Ending)(w':World):Prop:=∃rv nv qs,e=.returned (.agg #[rv,nv])/\w'.ownsRow w.heap.size 32 2 rv rs.length (zb5 rs)/\NRow w.heap.size nv ns qs w'/\Below w.heap.size w w'
theorem z0u (rv nv cv:Value)(rs:List (List Nat × Nat × Int))(f:MF)(b:Nat)(w:World)(h:FileIn w rv nv cv rs f)(hC:COk f)(hr:rs.length<=10000000)(hn:f.nodes.length<=100000000)(hk:∀n,n ∈ f.nodes->n.kids.length<=100000000)
  (hnm:∀r,r ∈ rs->r.1.length<=2000000) (hnc:∀r,r ∈ f.calls->r.1.length<=2000000) (hF:FinAt w b (nmR rs)) :
  Calls Tryz.prog 61 #[.agg #[rv,nv,cv],finF b] w (z6w (zam rs) (zan (nmR rs) (nmC f) f.nodes) w):=by
 obtain⟨-,⟨a1,c1,rfl,-,ha1⟩,⟨-,a2,c2,rfl,ha2⟩,a3,c3,rfl,-,ha3⟩:=h;have HA1:=qaa ha1;have HA2:=qaa ha2;have HA3:=qaa ha3;have HM:=qaa hnm;have HMC:=qaa hnc;have HK:=qaa hk;have HCO:=qaa hC;have HFI:=qaa hF;clear ha1 ha2 ha3 hnm hnc hk hC hF;have H0:Hid (GSt w #[jf a1 rs.length c1,jf a2 f.nodes.length c2,jf a3 f.calls.length c3] (jf none 0 0) 0 (zb5 (zam (rs.take 0))) (jf none 0 0) [] [] (((w.alloc (.cells #[jf a1 rs.length c1,jf a2 f.nodes.length c2,jf a3 f.calls.length c3] 46)).alloc (.cells #[jf none 0 0,jf none 0 0] 25)).alloc (.cells #[jf none 0 0,jf none 0 0] 25))):=qaa ⟨(Bl.new w _ _).past.past,(Bl.new' jc).past,Bl.new' jc,World.ownsRow_nil _ _ _ _,NRow.nil _ _,((zaa w _).trans ((zaa _ _).mono jc)).trans ((zaa _ _).mono (by simp<;>omega))⟩;unfold finF;go_enter Tryz.func61,Tryz.ntmps61
 go_upto_region 2 with fail
 obtain⟨W0,hW0⟩:∃W0,((w.alloc (.cells #[jf a1 rs.length c1,jf a2 f.nodes.length c2,jf a3 f.calls.length c3] 46)).alloc (.cells #[jf none 0 0,jf none 0 0] 25)).alloc (.cells #[jf none 0 0,jf none 0 0] 25)=W0:=⟨_,rfl⟩;rw[hW0] at H0;rw[hW0];clear hW0;have x0:=H0.out.1.cell (o:=0) (u:=jf a1 rs.length c1) rfl;have xl0:=H0.out.1.lt;go_wp2
 go_loopw [13] (fun c wr=>∃(k:Nat) (ra:Option Addr) (rc:Nat),k<=rs.length/\c=je jd k/\GSt w #[jf a1 rs.length c1,jf a2 f.nodes.length c2,jf a3 f.calls.length c3] (jf ra k rc) k (zb5 (zam (rs.take k))) (jf none 0 0) [] [] wr) (fun c _=>rs.length-(intOf c).toNat)
 case atStart=>exact⟨0,none,0,Nat.zero_le _,rfl,H0.out⟩
 case round=>
  clear x0 xl0;obtain⟨k,ra,rc,hk,rfl,hG⟩:=hrel;have hbs:=hG.2.2.2.2.2.size;have HB:=qaa hG.2.2.2.2.2;have HG:=qaa hG;by_cases hlt:k<rs.length
  ·obtain⟨x,hx⟩:∃x,rs[k]?=some x:=⟨_,qae hlt⟩
   rcases HA1.out with hz|⟨ab,ao,rfl,hca⟩
   ·rw[hz] at hlt;exact absurd hlt (qa3 _)
   obtain⟨e0,e1,e2,e3⟩:=zdt hca hx HB.out;have k1:(k:Int)<(rs.length:Int):=U
   have HX:=qaa (zjq hx);have hxs:(strOf x.1).size<=2000000:=by rw[zb0];exact HM.out x (qan hx)
   have HCL:=qaa (fun W=>ze1 (strOf x.1) W hxs);obtain⟨ir,hir,hzr0,hzr1,hzr2⟩:=info_parts zrl;have HW:=qaa (Bl.new wr 123 #[jh (strOf x.1),je jd (x.2.1:Int),je jd x.2.2]);have HG1:=qaa (hG.below (zaa wr (.cells #[jh (strOf x.1),je jd (x.2.1:Int),je jd x.2.2] 123)));clear hca hx hG hxs
   go_upto_region 5 with fail
   obtain⟨W1,hW1⟩:∃W1,wr.alloc (.cells #[jh (strOf x.1),je jd (x.2.1:Int),je jd x.2.2] 123)=W1:=⟨_,rfl⟩;rw[hW1] at HW HG1;rw[hW1];obtain⟨R,hR⟩:∃R,wr.heap.size=R:=⟨_,rfl⟩;rw[hR] at HW;rw[hR];clear hW1 hR e0 e1 e2 e3 hbs HB;have hbs1:=HG1.out.2.2.2.2.2.size;have f0:=HW.out.cell (o:=0) (u:=jh (strOf x.1)) rfl;have f2:=HW.out.cell (o:=2) (u:=je jd x.2.2) rfl;have fl:=HW.out.lt;have g0:=HG1.out.2.2.1.cell (o:=0) (u:=jf ra k rc) rfl;have gl:=HG1.out.2.2.1.lt
   go_region_law (first
    |(go_simp;go_at_call 90;(refine(HCL.out _).mono ?_);rintro e w3 ⟨rfl,hb⟩;have hb3:Below W1.heap.size W1 w3:=Below.trans (by repeat (first|exact qaf _ _|refine qak ?_)) (hb.mono jc);have hbs3:=hb3.size;have HW3:=qaa (HW.out.below hb3);have HG3:=qaa (HG1.out.below hb3);clear f0 f2 fl g0 gl hb hb3;have f3:=HW3.out.cell (o:=2) (u:=je jd x.2.2) rfl;have fl3:=HW3.out.lt;have g3:=HG3.out.2.2.1.cell (o:=0) (u:=jf ra k rc) rfl;have gl3:=HG3.out.2.2.1.lt)
    |(refine zcs (by rfl) _ _ 22 (by rfl) w.heap.size 32 ir _ 2 24 Tryz.underlying22 hir hzr0 hzr1 hzr2 (by rfl) ja (jf ra k rc) k _ (by simp[Act.eval]) (by refine zab HG3.out.2.2.2.1 ?_;repeat (first|exact qaf _ _|refine qak ?_|refine zac ?_ rfl _)) _ 1 1 [jh (strOf x.1),je jd x.2.2] (by simp[Act.eval];rfl) (by rfl) (by refine Bl.news (t:=32) ?_;repeat (first|(refine Bl.new' ?_;simp;done)|refine Bl.drew ?_|refine Bl.past ?_)) (by simp[Value.oneCell']) (by unfold maxLen;omega) U (by simp;omega) ?_;intro a5 c5 w5 hown5 hgrow5 hat5;have HG5:=qaa (GSt.rule (HG3.out.below (by repeat (first|exact qaf _ _|refine qak ?_|refine zac ?_ rfl _))) hgrow5 hown5);have hm5:=GSt.mid (HG3.out.below (by repeat (first|exact qaf _ _|refine qak ?_|refine zac ?_ rfl _))) hgrow5;have z0:=hm5.cell (o:=0) (u:=jf ra k rc) rfl;have zf:=hm5.free 0;have zl:=hm5.lt;clear hown5 hgrow5 hat5 hm5))
   all_goals
    rw[<-HX.out] at HG5;go_wp2;go_roundw
    case rel=>exact⟨k+1,a5,c5,hlt,by go_num,HG5.out⟩
    case measure=>simp[intOf];omega
  ·obtain rfl:k=rs.length:=U
   have k1:¬(rs.length:Int)<(rs.length:Int):=U
   have HG2:Hid (GSt w #[jf a1 rs.length c1,jf a2 f.nodes.length c2,jf a3 f.calls.length c3] (jf ra rs.length rc) rs.length (zb5 (zam rs)) (jf none 0 0) (zan (nmR rs) (nmC f) (f.nodes.take 0)) [] wr):=qaa (by
    have:=HG.out;rw[qbz] at this;exact this)
   have x1:=HG2.out.1.cell (o:=1) (u:=jf a2 f.nodes.length c2) rfl;have xl0:=HG2.out.1.lt;clear hG H0 HG HB hbs hlt hk;go_wp2
   go_loopw [32] (fun c wq=>∃(i:Nat) (na:Option Addr) (nc:Nat) (qs:List Value),i<=f.nodes.length/\c=je jd i/\GSt w #[jf a1 rs.length c1,jf a2 f.nodes.length c2,jf a3 f.calls.length c3] (jf ra rs.length rc) rs.length (zb5 (zam rs)) (jf na i nc) (zan (nmR rs) (nmC f) (f.nodes.take i)) qs wq) (fun c _=>f.nodes.length-(intOf c).toNat)
   case atStart=>exact⟨0,none,0,[],Nat.zero_le _,rfl,HG2.out⟩
   case round=>
    clear x1 xl0 k1 HG2;obtain⟨i,na,nc,qs,hi,rfl,hG⟩:=hrel;have hbs:=hG.2.2.2.2.2.size;have HB:=qaa hG.2.2.2.2.2;have HG:=qaa hG;by_cases hlt:i<f.nodes.length
    ·obtain⟨n,hn'⟩:∃n,f.nodes[i]?=some n:=⟨_,qae hlt⟩
     rcases HA2.out with hz|⟨ab,ao,rfl,hca⟩
     ·rw[hz] at hlt;exact absurd hlt (qa3 _)
     obtain⟨kv,d0,d1,d2,d3,d4,d5,d6,di,dl⟩:=(hca i n hn').kept HB.out (qac _);have hkl:=HK.out n (qan hn');have la:=zai d0;have k1:(i:Int)<(f.nodes.length:Int):=U
     have HX:=qaa (zjr (l:=nmR rs) (m:=nmC f) hn');have HNK:=qaa hn';have DI:=qaa di;obtain⟨ka,kc,rfl,-⟩:=di;clear hca hn' dl;have HLEN:Hid ((zan (nmR rs) (nmC f) (f.nodes.take i)).length=i):=qaa (by rw[zc1,List.length_take];omega);obtain⟨ii,hii,hzi0,hzi1,hzi2⟩:=info_parts zd1;obtain⟨ie,hie,hze0,hze1,hze2⟩:=info_parts zik;have HN1:=qaa (Bl.new wr 54 #[je jd n.op,jf ka n.kids.length kc,je jd n.rule,je jg n.s0,je jg n.s1,je jg n.s2,je jg n.s3]);have HB1:=qaa (zaa wr (.cells #[je jd n.op,jf ka n.kids.length kc,je jd n.rule,je jg n.s0,je jg n.s1,je jg n.s2,je jg n.s3] 54));have HSRC:=qaa (DI.out.kept HB1.out (qac _)).src
     go_upto_region 10 with fail
     obtain⟨W1,hW1⟩:∃W1,wr.alloc (.cells #[je jd n.op,jf ka n.kids.length kc,je jd n.rule,je jg n.s0,je jg n.s1,je jg n.s2,je jg n.s3] 54)=W1:=⟨_,rfl⟩;rw[hW1] at HN1 HB1 HSRC;rw[hW1];obtain⟨R,hR⟩:∃R,wr.heap.size=R:=⟨_,rfl⟩;rw[hR] at HN1 hbs;rw[hR];have n1:=HN1.out.cell (o:=1) (u:=jf ka n.kids.length kc) rfl;have nl:=HN1.out.lt;clear hW1 d0 d1 d2 d3 d4 d5 d6 la hG
     go_upto_region 11 with(at_builtin;(refine zf6 _ rfl _ _ 52 rfl w.heap.size 3 ii (je jd 0) 1 8 Tryz.underlying52 hii hzi0 hzi1 hzi2 rfl ja rfl ka n.kids.length kc (intsV n.kids) rfl (by unfold intsV;rw[qaw,Nat.mul_one]) HSRC.out (ints_oneCell .i64 n.kids) (by unfold maxLen;omega) U U ?_);intro a5 c5 w5 hown5 hgrow5;have hb5:=zb1 hgrow5;have HN5:=qaa (HN1.out.below hb5);have n5:=HN5.out.cell (o:=1) (u:=jf ka n.kids.length kc) rfl;have nf5:=HN5.out.free 1;have nl5:=HN5.out.lt;have HO5:=qaa hown5;have HB5:=qaa (HB1.out.trans (hb5.mono HB1.out.size));clear hown5 hgrow5 hb5)
     have HB2:=qaa (HB5.out.setCell (p:=⟨R,1,none⟩) (by rw[hR];exact qac R) (jf a5 n.kids.length c5));have HN2:Hid (Bl (w5.setCell ⟨R,1,none⟩ (jf a5 n.kids.length c5)) R 54 #[je jd n.op,jf a5 n.kids.length c5,je jd n.rule,je jg n.s0,je jg n.s1,je jg n.s2,je jg n.s3]):=qaa (HN5.out.put _);have HO2:=qaa (ownsRow_setCell_other HO5.out (a:=⟨R,1,none⟩) (zaq HO5.out HN5.out ja) (jf a5 n.kids.length c5));obtain⟨W2,hW2⟩:∃W2,w5.setCell ⟨R,1,none⟩ (jf a5 n.kids.length c5)=W2:=⟨_,rfl⟩;rw[hW2] at HB2 HN2 HO2;rw[hW2];have HG2:=qaa (HG.out.below HB2.out);clear hW2 n1 nl n5 nf5 nl5 HN5 HO5 HB5 HN1 HB1 HSRC DI;have hs2:=HB2.out.size;rw[hR] at hs2;have b2:=HG2.out.1.cell (o:=2) (u:=jf a3 f.calls.length c3) rfl;have bl:=HG2.out.1.lt;have y0:=HN2.out.cell (o:=0) (u:=je jd n.op) rfl;have y1:=HN2.out.cell (o:=1) (u:=jf a5 n.kids.length c5) rfl;have y3:=HN2.out.cell (o:=3) (u:=je jg n.s0) rfl;have y4:=HN2.out.cell (o:=4) (u:=je jg n.s1) rfl;have y5:=HN2.out.cell (o:=5) (u:=je jg n.s2) rfl;have y6:=HN2.out.cell (o:=6) (u:=je jg n.s3) rfl;have yf:=HN2.out.free 2;have yl:=HN2.out.lt;by_cases h2:n.op=2
     ·obtain⟨c,hcr,hcl⟩:=HCO.out.rule HNK.out h2
      obtain⟨x,hx⟩:∃x,f.calls[c]?=some x:=⟨_,qae hcl⟩;rcases HA3.out with hz|⟨cb,co,rfl,hca⟩
      ·rw[hz] at hcl;exact absurd hcl (qa3 _)
      have HBW:=qaa (HG2.out.2.2.2.2.2);obtain⟨e0,-,e3⟩:=zcy hca hx HBW.out;have y2:=HN2.out.cell (o:=2) (u:=je jd n.rule) rfl;rw[hcr] at y2;have HNP:Hid (gNode (nmR rs) (nmC f) n=⟨n.op,n.kids,idxO (fndL (nmR rs) (strOf x.1)),n.s0,n.s1,n.s2,n.s3⟩):=qaa (by
       have e:(nmC f).getD n.rule.toNat ByteArray.empty=strOf x.1:=by
        rw[hcr,Int.toNat_natCast,List.getD_eq_getElem?_getD,zgx hx];rfl
       unfold gNode;rw[if_pos h2,e])
      have hxs:(strOf x.1).size<=2000000:=by rw[zb0];exact HMC.out x (qan hx)
      have HFN:=qaa (zim (strOf x.1) b (nmR rs) W2 (HFI.out.below HBW.out) (by unfold maxLen;omega));obtain⟨z,hz⟩:∃z,idxO (fndL (nmR rs) (strOf x.1))=z:=⟨_,rfl⟩;rw[hz] at HFN HNP;have q1:(n.op == 2)=true:=by rw[h2];rfl
      have q2:(0:Int)<=(c:Int):=U
      have q3:(c:Int)<(f.calls.length:Int):=U
      have HN3:Hid (Bl (W2.setCell ⟨R,2,none⟩ (je jd z)) R 54 #[je jd n.op,jf a5 n.kids.length c5,je jd z,je jg n.s0,je jg n.s1,je jg n.s2,je jg n.s3]):=qaa (HN2.out.put _);have HO3:=qaa (ownsRow_setCell_other HO2.out (a:=⟨R,2,none⟩) (zaq HO2.out HN2.out ja) (je jd z));have HG3:=qaa (HG.out.below (HB2.out.setCell (p:=⟨R,2,none⟩) (by rw[hR];exact qac R) (je jd z)));clear hca hx hxs hz h2 hcr
      go_upto_region 13 with(go_at_call 89;(with_reducible refine HFN.out.mono ?_);rintro e w3 ⟨rfl,hw3⟩;obtain rfl:=hw3.symm;clear hw3)
      clear b2 bl y0 y1 y2 y3 y4 y5 y6 yf yl e0 e3 HFN;obtain⟨W3,hW3⟩:∃W3,W2.setCell ⟨R,2,none⟩ (je jd z)=W3:=⟨_,rfl⟩;rw[hW3] at HN3 HO3 HG3;rw[hW3];clear hW3 HG2 HO2 HN2 HB2;have hs3:=HG3.out.2.2.2.2.2.size;have g1:=HG3.out.2.2.1.cell (o:=1) (u:=jf na i nc) rfl;have gl:=HG3.out.2.2.1.lt;have y0:=HN3.out.cell (o:=0) (u:=je jd n.op) rfl;have y1:=HN3.out.cell (o:=1) (u:=jf a5 n.kids.length c5) rfl;have y2:=HN3.out.cell (o:=2) (u:=je jd z) rfl;have y3:=HN3.out.cell (o:=3) (u:=je jg n.s0) rfl;have y4:=HN3.out.cell (o:=4) (u:=je jg n.s1) rfl;have y5:=HN3.out.cell (o:=5) (u:=je jg n.s2) rfl;have y6:=HN3.out.cell (o:=6) (u:=je jg n.s3) rfl;have yl:=HN3.out.lt;have HCC:=qaa (zc7 W3 (nodeC ((⟨n.op,n.kids,z,n.s0,n.s1,n.s2,n.s3⟩:PN),jf a5 n.kids.length c5)) 54)
      go_wp2_with (at_builtin;(refine wpList_append_own _ rfl _ _ 23 rfl w.heap.size 54 ie _ 7 72 qdq hie hze0 hze1 hze2 rfl ja _ (zan (nmR rs) (nmC f) (f.nodes.take i)).length _ rfl (zab HG3.out.2.2.2.2.1.2.1 (zaa W3 _)) ⟨_,0,none⟩ 1 1 (nodeC ((⟨n.op,n.kids,z,n.s0,n.s1,n.s2,n.s3⟩:PN),jf a5 n.kids.length c5)) rfl rfl HCC.out (by simp[nodeC,Value.oneCell']) (by rw[HLEN.out];unfold maxLen;omega) (by rw[HLEN.out];omega) (by simp;omega) ?_);intro v6 w6 hown6 hgrow6 _;obtain⟨a6,c6,rfl⟩:=zag hown6;have HG4:=qaa (GSt.node (n:=(⟨n.op,n.kids,z,n.s0,n.s1,n.s2,n.s3⟩:PN)) (HG3.out.below (zaa W3 _)) (zab HO3.out (zaa W3 _)) hgrow6 hown6);have hm5:=GSt.mid2 (HG3.out.below (zaa W3 _)) hgrow6;have z0:=hm5.cell (o:=1) (u:=jf na i nc) rfl;have zf:=hm5.free 1;have zl:=hm5.lt;rw[HLEN.out] at HG4 ⊢;clear hown6 hgrow6 hm5)
      go_roundw
      case rel=>exact⟨i+1,a6,c6,_,hlt,by go_num,by
       have:=HG4.out;rw[HX.out,HNP.out];exact this⟩
      case measure=>simp[intOf];omega
     ·have HNP:Hid (gNode (nmR rs) (nmC f) n=n):=qaa (if_neg h2)
      have q1:(n.op == 2)=false:=zae h2;clear h2
      go_upto_region 13 with fail
      obtain⟨W3,rfl⟩:∃W3,W3=W2:=⟨_,rfl⟩;have HN3:=HN2;have HO3:=HO2;have HG3:=HG2;clear b2 bl yf;have y2:=HN3.out.cell (o:=2) (u:=je jd n.rule) rfl;have hs3:=HG3.out.2.2.2.2.2.size;have g1:=HG3.out.2.2.1.cell (o:=1) (u:=jf na i nc) rfl;have gl:=HG3.out.2.2.1.lt;have HCC:=qaa (zc7 W3 (nodeC (n,jf a5 n.kids.length c5)) 54)
      go_wp2_with (at_builtin;(refine wpList_append_own _ rfl _ _ 23 rfl w.heap.size 54 ie _ 7 72 qdq hie hze0 hze1 hze2 rfl ja _ (zan (nmR rs) (nmC f) (f.nodes.take i)).length _ rfl (zab HG3.out.2.2.2.2.1.2.1 (zaa W3 _)) ⟨_,0,none⟩ 1 1 (nodeC (n,jf a5 n.kids.length c5)) rfl rfl HCC.out (by simp[nodeC,Value.oneCell']) (by rw[HLEN.out];unfold maxLen;omega) (by rw[HLEN.out];omega) (by simp;omega) ?_);intro v6 w6 hown6 hgrow6 _;obtain⟨a6,c6,rfl⟩:=zag hown6;have HG4:=qaa (GSt.node (n:=n) (HG3.out.below (zaa W3 _)) (zab HO3.out (zaa W3 _)) hgrow6 hown6);have hm5:=GSt.mid2 (HG3.out.below (zaa W3 _)) hgrow6;have z0:=hm5.cell (o:=1) (u:=jf na i nc) rfl;have zf:=hm5.free 1;have zl:=hm5.lt;rw[HLEN.out] at HG4 ⊢;clear hown6 hgrow6 hm5)
      go_roundw
      case rel=>exact⟨i+1,a6,c6,_,hlt,by go_num,by
       have:=HG4.out;rw[HX.out,HNP.out];exact this⟩
      case measure=>simp[intOf];omega
    ·obtain rfl:i=f.nodes.length:=U
     have k1:¬(f.nodes.length:Int)<(f.nodes.length:Int):=U
     have HE:Hid (GSt w #[jf a1 rs.length c1,jf a2 f.nodes.length c2,jf a3 f.calls.length c3] (jf ra rs.length rc) rs.length (zb5 (zam rs)) (jf na f.nodes.length nc) (zan (nmR rs) (nmC f) f.nodes) qs wr):=qaa (by
      have:=HG.out;rw[qbz] at this;exact this)
     have g0:=HE.out.2.2.1.cell (o:=0) (u:=jf ra rs.length rc) rfl;have g1:=HE.out.2.2.1.cell (o:=1) (u:=jf na f.nodes.length nc) rfl;have gl:=HE.out.2.2.1.lt;have r0:=HE.out.2.1.cell (o:=0) (u:=jf none 0 0) rfl;have r1:=HE.out.2.1.cell (o:=1) (u:=jf none 0 0) rfl;have rf:=HE.out.2.1.free;have rl:=HE.out.2.1.lt;have HL:Hid ((zam rs).length=rs.length):=qaa (qaw _);clear hG HG HB hbs;have HF:=qaa (HE.out.fin (jf ra rs.length rc) (jf na f.nodes.length nc));go_wp2;refine bodyPost_ret (v:=.agg #[jf ra rs.length rc,jf na f.nodes.length nc]) (by simp[results,Tryz.results61,go_sem,r0,r1]) rfl ?_;exact⟨_,_,qs,rfl,by rw[HL.out];exact HF.out.1,HF.out.2.1,HF.out.2.2⟩
end
