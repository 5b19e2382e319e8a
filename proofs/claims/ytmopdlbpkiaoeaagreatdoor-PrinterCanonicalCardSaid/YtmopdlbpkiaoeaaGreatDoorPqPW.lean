/- The program's writer: a block with the grammar, a strings.Builder and the number of nodes that it may still write. The program's enclosed and ends; the text of  -/
import Derived.Deep.Cut
import Derived.Deep.RegionWith
import Derived.Deep.RegionHeld3
import Derived.Test.YtmopdlbpkiaoeaaGreatDoorPqPrnRCls
set_option maxRecDepth 100000
set_option maxHeartbeats 8000000
open Go.IntKind renaming i64->jd, u64->jg, u8->jl
open Go.Value renaming int->je, slice->jf, string->jh, pointer->jj, tuple->jk
namespace Go.Proofs.YtmopdlbpkiaoeaaGreatDoor
open Go.Lib renaming cell_of_heap->qdi, hid->qaa
open Go.Lib.BuilderAt renaming lt->qei, put->qfn
open Go.Proofs.Tryz renaming prog->qab, underlying143->qfg, underlying70->qdr, underlying71->qbj, underlying9->qba
open Go.Proofs.YtmopdlbpkiaoeaaGreatDoor.Kp renaming of_below->qbo
open Go.RowKit.Below renaming heap_setCell->qd3
open Int renaming toNat_natCast->qa8
open List renaming append_assoc->qao, getElem?_eq_getElem->qae, getElem?_eq_some_iff->qag, length_append->qad, length_cons->qah, length_map->qaw, length_singleton->qai, length_take->qbn, map_congr_left->qb9, mem_append->qau, mem_of_getElem?->qan, mem_singleton->qam, take_of_length_le->qa4
open Nat renaming le_refl->qac
open Option renaming map_eq_some_iff->qa1
variable {i:Nat}{n:PN}{w:World}
section
open Go.RowKit
theorem yaj4:(qab.info? 73).map (fun i=>i.size)=some 2:=jb
theorem yaf4:liesAt qab qab.depth 75 (5/qab.cellsOf 75) 2 73 1=true:=jb
theorem yaem (b:Nat)(w:World)(h0:w.cell? ⟨b,2,none⟩=some (.pointer (some ⟨b,2,none⟩))) :
  Calls qab 52 #[jj (some ⟨b,2,none⟩)] w fun e w'=>e=.returned (jk #[])/\w'=w:=by
 obtain⟨j,hj,hjs⟩:=qa1.1 yaj4;have k1:=Lib.run_neq_ptr_same (P:=qab) w ⟨b,2,none⟩ qdr hj;go_enter Tryz.func52,Tryz.ntmps52;go_wp2
 go_end0
 exact⟨rfl,rfl⟩
theorem yadz (b:Nat)(w:World)(h0:w.cell? ⟨b,2,none⟩=some (.pointer none))(hsh:w.shape? b=some (75,5))(hfz:w.frozen? ⟨b,2,none⟩=false) :
  Calls qab 52 #[jj (some ⟨b,2,none⟩)] w fun e w'=>e=.returned (jk #[])/\w'=w.setCell ⟨b,2,none⟩ (jj (some ⟨b,2,none⟩)):=by
 obtain⟨j,hj,hjs⟩:=qa1.1 yaj4;have k1:=Lib.run_to_unsafe (P:=qab) w ⟨b,2,none⟩ qdr qfg hj (by rw[hjs];decide) hsh (by show(2:Nat)<5;decide);have k2:=Lib.run_from_unsafe (P:=qab) w ⟨b,2,none⟩ qfg qdr hj hsh yaf4;have k3:=Lib.run_noEscape (P:=qab) w (jj (some ⟨b,2,none⟩));have k4:=run_callFunc_extern (P:=qab) Tryz.func85 jb jb jb (e:=Extern.AbiNoEscape.same) jb #[jj (some ⟨b,2,none⟩)] w;rw[k3] at k4;go_enter Tryz.func52,Tryz.ntmps52;go_wp2
 go_end0
 exact⟨rfl,rfl⟩
def PwAt (B b:Nat)(rv nv p:Value)(k:Nat)(l:List Nat)(w:World):Prop:=
 B<=b/\∃v,Bl w b 75 #[rv,nv,p,v,je jd (k:Int)]/\w.ownsRow B 5 1 v l.length (u8s l)
def Pw (B b:Nat)(rv nv:Value)(k:Nat)(l:List Nat)(w:World):Prop:=(∀x,x ∈ l->x<256)/\(PwAt B b rv nv (jj none) k l w∨PwAt B b rv nv (jj (some ⟨b,2,none⟩)) k l w)
abbrev KW (B b:Nat)(w w':World):Prop:=Kp B b b 5 w w'
section
variable {B b k:Nat} {rv nv p:Value} {l:List Nat} {w w':World}
theorem PwAt.lt (h:PwAt B b rv nv p k l w):b<w.heap.size:=by
 obtain⟨-,v,hb,-⟩:=h;exact hb.lt
theorem PwAt.grown (h:PwAt B b rv nv p k l w)(hb:Below w.heap.size w w'):PwAt B b rv nv p k l w':=by
 obtain⟨h1,v,h2,h3⟩:=h;exact⟨h1,v,h2.below hb,zab h3 hb⟩
theorem Pw.lt (h:Pw B b rv nv k l w):b<w.heap.size:=h.2.elim PwAt.lt PwAt.lt
theorem Pw.le (h:Pw B b rv nv k l w):B<=b:=h.2.elim And.left And.left
theorem Pw.grown (h:Pw B b rv nv k l w)(hb:Below w.heap.size w w'):Pw B b rv nv k l w':=⟨h.1,h.2.imp (fun x=>x.grown hb) (fun x=>x.grown hb)⟩
theorem Pw.drew (h:Pw B b rv nv k l w):Pw B b rv nv k l w.drew:=h
theorem Pw.cell0 (h:Pw B b rv nv k l w):w.cell? ⟨b,0,none⟩=some rv:=by
 rcases h.2 with⟨-,v,h,-⟩|⟨-,v,h,-⟩<;>exact h.cell rfl
theorem Pw.cell1 (h:Pw B b rv nv k l w):w.cell? ⟨b,1,none⟩=some nv:=by
 rcases h.2 with⟨-,v,h,-⟩|⟨-,v,h,-⟩<;>exact h.cell rfl
theorem Pw.cell4 (h:Pw B b rv nv k l w):w.cell? ⟨b,4,none⟩=some (je jd (k:Int)):=by
 rcases h.2 with⟨-,v,h,-⟩|⟨-,v,h,-⟩<;>exact h.cell rfl
theorem Pw.free (h:Pw B b rv nv k l w)(o:Nat):w.frozen? ⟨b,o,none⟩=false:=by
 rcases h.2 with⟨-,v,h,-⟩|⟨-,v,h,-⟩<;>exact h.free o
theorem PwAt.left (h:PwAt B b rv nv p k l w)(k':Nat):PwAt B b rv nv p k' l (w.setCell ⟨b,4,none⟩ (je jd (k':Int)))/\KW B b w (w.setCell ⟨b,4,none⟩ (je jd (k':Int))):=by
 obtain⟨h1,v,h2,h3⟩:=h;have hne:=zaq h3 h2 ja;refine⟨⟨h1,v,?_,?_⟩,Kp.set h2 (.inl rfl) _⟩
 ·have:=heap_setCell_same w b 4 _ _ (je jd (k':Int)) h2
  exact this
 ·refine h3.kept (row:=some b) ⟨rfl,rfl,rfl,by simp[World.setCell],fun k _ hk=>qd3 _ _ _ _ (fun e=>hk (by simp[e]))⟩ (Or.inr hne)
theorem Pw.left (h:Pw B b rv nv k l w)(k':Nat):Pw B b rv nv k' l (w.setCell ⟨b,4,none⟩ (je jd (k':Int)))/\KW B b w (w.setCell ⟨b,4,none⟩ (je jd (k':Int))):=by
 rcases h with⟨h0,h|h⟩
 ·exact⟨⟨h0,.inl (h.left k').1⟩,(h.left k').2⟩
 ·exact⟨⟨h0,.inr (h.left k').1⟩,(h.left k').2⟩
theorem PwAt.used (h:PwAt B b rv nv p k l w)(q:Value):PwAt B b rv nv q k l (w.setCell ⟨b,2,none⟩ q)/\KW B b w (w.setCell ⟨b,2,none⟩ q):=by
 obtain⟨h1,v,h2,h3⟩:=h;have hne:=zaq h3 h2 ja;refine⟨⟨h1,v,?_,?_⟩,Kp.set h2 (.inl rfl) _⟩
 ·have:=heap_setCell_same w b 2 _ _ q h2
  exact this
 ·refine h3.kept (row:=some b) ⟨rfl,rfl,rfl,by simp[World.setCell],fun k _ hk=>qd3 _ _ _ _ (fun e=>hk (by simp[e]))⟩ (Or.inr hne)
theorem PwAt.put {v v':Value}{l':List Nat}(h1:B<=b)(h2:Bl w b 75 #[rv,nv,p,v,je jd (k:Int)])(h3:w.ownsRow B 5 1 v' l'.length (u8s l')):PwAt B b rv nv p k l' (w.setCell ⟨b,3,none⟩ v')/\KW B b w (w.setCell ⟨b,3,none⟩ v'):=by
 have hne:=zaq h3 h2 ja;refine⟨⟨h1,v',?_,?_⟩,Kp.set h2 (.inl rfl) _⟩
 ·have:=heap_setCell_same w b 3 _ _ v' h2
  exact this
 ·refine h3.kept (row:=some b) ⟨rfl,rfl,rfl,by simp[World.setCell],fun k _ hk=>qd3 _ _ _ _ (fun e=>hk (by simp[e]))⟩ (Or.inr hne)
end
theorem yacw (B b:Nat)(rv nv:Value)(k:Nat)(l:List Nat)(w:World)(h:Pw B b rv nv k l w) :
  Calls qab 52 #[jj (some ⟨b,2,none⟩)] w fun e w'=>e=.returned (jk #[])/\PwAt B b rv nv (jj (some ⟨b,2,none⟩)) k l w'/\KW B b w w':=by
 rcases h.2 with h|h
 ·obtain⟨h1,v,h2,h3⟩:=h
  have hsh:w.shape? b=some (75,5):=by
   unfold Bl at h2;simp[World.shape?,h2]
  refine(yadz b w (h2.cell rfl) hsh (h2.free 2)).mono ?_;rintro e w' ⟨rfl,rfl⟩;have:=PwAt.used ⟨h1,v,h2,h3⟩ (jj (some ⟨b,2,none⟩));exact⟨rfl,this.1,this.2⟩
 ·obtain⟨h1,v,h2,h3⟩:=h
  refine(yaem b w (h2.cell rfl)).mono ?_;rintro e w' ⟨rfl,rfl⟩;exact⟨rfl,⟨h1,v,h2,h3⟩,Kp.refl _⟩
theorem yaah {B n:Nat}{v:Value}{xs:List Value}(h:w.ownsRow B 5 1 v n xs):∀g,v.ownBlock=some g->B<=g/\∃c fz,w.heap[g]?=some (.cells c 5 fz):=fun g hg=>by
 refine⟨(h.lt g hg).1,?_⟩;rcases h.2 with⟨rfl,-⟩|⟨g',cap,cur,rfl,-,hh,-⟩
 ·simp[Value.ownBlock] at hg
 ·simp[Value.ownBlock] at hg
  subst hg;exact⟨_,_,hh⟩
theorem yahj (B b:Nat)(rv nv:Value)(k:Nat)(l:List Nat)(c:Nat)(w:World)(h:Pw B b rv nv k l w)(hc:c<256)(hl:l.length<=2000000)(hB:B<=w.heap.size) :
  Calls qab 29 #[jj (some ⟨b,2,none⟩),je jl (c:Int)] w fun e w'=>e=.returned .nilIface/\Pw B b rv nv k (l++[c]) w'/\KW B b w w':=by
 obtain⟨i0,hi0,hz0,hz1,hz2⟩:=info_parts infoU8;have H:=qaa h;have HX:Hid (∀x,x ∈ l++[c]->x<256):=qaa fun x hx=>(qau.1 hx).elim (h.1 x) fun e=>by rw[qam.1 e];exact hc
 clear h hc;go_enter Tryz.func29,Tryz.ntmps29
 go_wp2_with (first
  |(go_at_call 52;(with_reducible refine(yacw B b rv nv k l _ H.out).mono ?_);rintro e w1 ⟨rfl,h1,hb1⟩;obtain⟨hBb,v,hbk,hown⟩:=h1;have HK:=qaa hb1;have hz1':=hb1.size;have hlt:=hbk.lt;have c1:w1.cell? ⟨b,3,none⟩=some v:=hbk.cell rfl;clear hb1)
  |(at_builtin;refine wpList_append_own _ rfl _ _ 71 rfl B 5 i0 (je jl 0) 1 1 qbj hi0 hz0 hz1 hz2 rfl ja _ _ _ rfl (hown.alloc _) ⟨w1.heap.size,0,none⟩ 1 1 [je jl (c:Int)] rfl rfl (zat _ _ _) (by simp[Value.oneCell']) (by unfold maxLen;omega) U (by simp;omega) ?_;intro v' w2 hown' hgrow _;obtain⟨ao,cap,rfl⟩:=zag hown';have f1:=(hbk.below (zaa _ _)).grown hgrow (fun g hg=>⟨_,_,_,((yaah (hown.alloc _)) g hg).2.choose_spec.choose_spec,ja⟩);have f2:=f1.free 3;have f3:w2.cell? ⟨b,3,none⟩=some v:=f1.cell rfl))
 go_ret;have h3:=PwAt.put (k:=k) (l':=l++[c]) hBb f1 (by rw[qad,zqx];exact hown');exact⟨rfl,⟨HX.out,.inr h3.1⟩,((HK.out.trans (qbo (zaa _ _))).trans (Kp.grown hgrow (yaah (hown.alloc _)))).trans h3.2⟩
theorem yaai (B b:Nat)(rv nv:Value)(k:Nat)(l:List Nat)(s:ByteArray)(w:World)(h:Pw B b rv nv k l w)(hl:l.length+s.size<=2000000)(hB:B<=w.heap.size) :
  Calls qab 40 #[jj (some ⟨b,2,none⟩),jh s] w fun e w'=>e=.returned (jk #[je jd (s.size:Int),.nilIface])/\Pw B b rv nv k (l++bts s) w'/\KW B b w w':=by
 obtain⟨i0,hi0,hz0,hz1,hz2⟩:=info_parts infoU8;have H:=qaa h;have HX:Hid (∀x,x ∈ l++bts s->x<256):=qaa fun x hx=>(qau.1 hx).elim (h.1 x) fun e=>zt5 s x e
 clear h;go_enter Tryz.func40,Tryz.ntmps40
 go_wp2_with (first
  |(go_at_call 52;(with_reducible refine(yacw B b rv nv k l _ H.out).mono ?_);rintro e w1 ⟨rfl,h1,hb1⟩;obtain⟨hBb,v,hbk,hown⟩:=h1;have HK:=qaa hb1;have hz1':=hb1.size;have hlt:=hbk.lt;have c1:w1.cell? ⟨b,3,none⟩=some v:=hbk.cell rfl;clear hb1)
  |(at_builtin;refine Lib.wpList_append_own_string _ rfl _ _ 71 9 rfl B 5 i0 qbj qba hi0 hz0 hz1 hz2 _ _ _ rfl hown s rfl (by unfold maxLen;omega) U U ?_;intro v' w2 hown' hgrow _;obtain⟨ao,cap,rfl⟩:=zag hown';have f1:=hbk.grown hgrow (fun g hg=>⟨_,_,_,((yaah hown) g hg).2.choose_spec.choose_spec,ja⟩);have f2:=f1.free 3;have f3:w2.cell? ⟨b,3,none⟩=some v:=f1.cell rfl))
 go_ret2
 have h3:=PwAt.put (k:=k) (l':=l++bts s) hBb f1 (by rw[qad,zaj,yaa8,<-z98];exact hown');exact⟨rfl,⟨HX.out,.inr h3.1⟩,(HK.out.trans (Kp.grown hgrow (yaah hown))).trans h3.2⟩
theorem yaat (B b:Nat)(rv nv:Value)(k:Nat)(l:List Nat)(w:World)(h:Pw B b rv nv k l w)(h0:l≠[])(hm:l.length<=2000000) :
  Calls qab 30 #[jj (some ⟨b,2,none⟩)] w fun e w'=>e=.returned (jh (strOf l))/\Below B w w':=by
 have hl:=h.1;obtain⟨p,hB,v,hbk,hown⟩:∃p,PwAt B b rv nv p k l w:=h.2.elim (fun x=>⟨_,x⟩) (fun x=>⟨_,x⟩);obtain⟨m,hmq⟩:∃m,l.map UInt8.ofNat=m:=⟨_,rfl⟩;have hml:m.length=l.length:=by rw[<-hmq,qaw]
 have hms:strOf l=⟨m.toArray⟩:=by rw[<-hmq];rfl
 have hm0:m≠[]:=by rw[<-hmq];simpa using h0
 rw[yaa3 l hl,hmq,<-hml] at hown;rw[hms];have hl0:m.length≠0:=by simpa using hm0
 obtain⟨g,cap,cur,rfl,hbg,hg,hnc,hcm,hcs,htake⟩:∃g cap cur,v=jf (some ⟨g,0,none⟩) m.length cap/\B<=g/\w.heap[g]?=some (.cells cur 5 (0,0))/\m.length<=cap/\cap<=maxLen/\cur.size=cap*1/\cur.toList.take (m.length*1)=Lib.byteCells m:=by
  rcases hown.2 with⟨_,hz⟩|⟨g,cap,cur,hv,r⟩
  ·exact absurd hz hl0
  ·exact⟨g,cap,cur,hv,r⟩
 have c1:w.drew.cell? ⟨b,3,none⟩=some (jf (some ⟨g,0,none⟩) m.length cap):=hbk.cell rfl;have hSD:(Builtin.unsafeSliceData_ #[71] 103 #[jf (some ⟨g,0,none⟩) m.length cap]).run qab w.drew=.ok (jj (some ⟨g,0,none⟩)) w.drew:=
  Lib.run_unsafeSliceData_row _ _ _ _ _ _ U
 have hUS:(Builtin.unsafeString_ #[103,3] 9 #[jj (some ⟨g,0,none⟩),je jd m.length]).run qab w.drew=.ok (jh ⟨m.toArray⟩) (w.drew.freeze ⟨g,0,none⟩ m.length):=by
  refine Lib.run_unsafeString_row w.drew 103 3 9 5 Tryz.underlying103 jb g cur.size (by have hg':w.drew.heap[g]?=some (.cells cur 5 (0,0)):=hg;simp[World.shape?,hg']) m hm0 U (by unfold maxLen at hcm;omega) ?_;intro j x hx;have:=hown.cells (g:=g) rfl j (je jl x.toNat) (by simp[Lib.byteCells,hx]);exact this
 clear hmq hml hms hm0 hl0 hnc hcm hcs htake hown h0 hl hm h;go_enter Tryz.func30,Tryz.ntmps30;go_wp2
 go_region
 all_goals (go_wp2;go_ret;exact⟨rfl,Lib.below_freeze (Below.drew (Below.refl B w)) (p:=⟨g,0,none⟩) hbg _⟩)
theorem z99 (B b:Nat)(rv nv:Value)(k:Nat)(l:List Nat)(c:Nat)(i:Int)(hi:(c:Int)=i)(w:World)(h:Pw B b rv nv k l w)(hc:c<256)(hl:l.length<=2000000)(hB:B<=w.heap.size) :
  Calls qab 29 #[jj (some ⟨b,2,none⟩),je jl i] w fun e w'=>e=.returned .nilIface/\Pw B b rv nv k (l++[c]) w'/\KW B b w w':=by
 subst hi;exact yahj B b rv nv k l c w h hc hl hB
end
def penB (op p:Int):Bool:=if op=3 then decide (2<=p) else if op=4 then decide (1<=p) else if 5<=op/\op<=7 then decide (4<=p) else if op=8∨op=9 then decide (3<=p) else false
section
variable (ns:List PN) (nm:Int->List Nat) (cx:PN->List Nat)
def pX (p i:Int):List Nat:=match ns[i.toNat]? with
 |some n=>parX (penB n.op p) (inX ns nm cx n (tx ns nm cx))
 |none=>[]
end
section
variable {ns:List PN} {nm:Int->List Nat} {cx:PN->List Nat}
theorem pX_eq {i:Nat}(hn:ns[i]?=some n)(p:Int):pX ns nm cx p (i:Int)=parX (penB n.op p) (inX ns nm cx n (tx ns nm cx)):=by
 unfold pX;rw[qa8,hn]
theorem yakp (op:Int)(h:0<=op/\op<=9):penB op 0=parB op 0/\penB op 2=parB op 1/\penB op 3=parB op 2/\penB op 4=parB op 3/\penB op 1=decide (op=4)/\parB op 0=false:=by
 rcases(by omega:op=0∨op=1∨op=2∨op=3∨op=4∨op=5∨op=6∨op=7∨op=8∨op=9) with rfl|rfl|rfl|rfl|rfl|rfl|rfl|rfl|rfl|rfl<;>decide
theorem pX_tx (hk:zdo ns){i:Int}(h0:0<=i)(hn:ns[i.toNat]?=some n)(ho:0<=n.op/\n.op<=9):pX ns nm cx 0 i=tx ns nm cx 0 i/\pX ns nm cx 2 i=tx ns nm cx 1 i/\pX ns nm cx 3 i=tx ns nm cx 2 i/\pX ns nm cx 4 i=tx ns nm cx 3 i /\
  pX ns nm cx 1 i=parX (decide (opAt ns i=4)) (tx ns nm cx 0 i):=by
 obtain⟨k,rfl⟩:∃k:Nat,i=k:=⟨i.toNat,U⟩;rw[qa8] at hn;obtain⟨e0,e1,e2,e3,e4,e5⟩:=yakp n.op ho;have hop:opAt ns (k:Int)=n.op:=by unfold opAt;rw[qa8,hn]
 rw[pX_eq hn,pX_eq hn,pX_eq hn,pX_eq hn,pX_eq hn,tx_eq hk hn,tx_eq hk hn,tx_eq hk hn,tx_eq hk hn,hop,e0,e1,e2,e3,e4,e5];exact⟨rfl,rfl,rfl,rfl,rfl⟩
theorem yacc {α:Type}:∀l:List (List α),joinT [] l=l.flatten
 | []=>rfl
 | [x]=>by rw[yab3];simp
 |x::y::r=>by rw[z9g,yacc (y::r)];rfl
theorem yaen {R:Nat}(h:madeB n R=true):0<=n.op/\n.op<=9:=by
 rcases z9h h with⟨h,-⟩|⟨h,-⟩|⟨h,-⟩|⟨h,-⟩|⟨h,-⟩<;>omega
theorem z9s (hk:zdo ns)(hm:∀(i:Nat) (n:PN),ns[i]?=some n->∃R,madeB n R=true){i:Nat}{n:PN}(hn:ns[i]?=some n) :
  (n.op=3->inX ns nm cx n (tx ns nm cx)=joinT [32] (n.kids.map (pX ns nm cx 2)))/\(n.op=4->inX ns nm cx n (tx ns nm cx)=joinT [32,47,32] (n.kids.map (pX ns nm cx 1))) /\
  (n.op=8∨n.op=9->inX ns nm cx n (tx ns nm cx)=preX n.op::joinT [] (n.kids.map (pX ns nm cx 3)))/\(5<=n.op/\n.op<=7->inX ns nm cx n (tx ns nm cx)=joinT [] (n.kids.map (pX ns nm cx 4))++[sufX n.op]):=by
 have hkid:∀k,k ∈ n.kids->∃m,0<=k/\ns[k.toNat]?=some m/\0<=m.op/\m.op<=9:=fun k hkm=>by
  have h:=hk i n hn k hkm;have hil:=(qag.1 hn).1;obtain⟨m,hmm⟩:∃m,ns[k.toNat]?=some m:=⟨_,qae U⟩;obtain⟨R,hR⟩:=hm _ m hmm;exact⟨m,h.1,hmm,yaen hR⟩
 have hq:∀k,k ∈ n.kids->pX ns nm cx 2 k=tx ns nm cx 1 k/\pX ns nm cx 3 k=tx ns nm cx 2 k/\pX ns nm cx 4 k=tx ns nm cx 3 k/\pX ns nm cx 1 k=parX (decide (opAt ns k=4)) (tx ns nm cx 0 k):=fun k hkm=>by
  obtain⟨m,h0,h1,h2⟩:=hkid k hkm;exact(pX_tx hk h0 h1 h2).2
 unfold inX;refine⟨fun h=>?_,fun h=>?_,fun h=>?_,fun h=>?_⟩
 ·rw[if_neg U,if_neg U,if_neg U,if_pos h,qb9 fun k hkm=>(hq k hkm).1]
 ·rw[if_neg U,if_neg U,if_neg U,if_neg U,if_pos h,qb9 fun k hkm=>(hq k hkm).2.2.2]
 ·rw[if_neg U,if_neg U,if_neg U,if_neg U,if_neg U,if_pos h,qb9 fun k hkm=>(hq k hkm).2.1,yacc,List.flatMap_def]
 ·rw[if_neg U,if_neg U,if_neg U,if_neg U,if_neg U,if_neg U,qb9 fun k hkm=>(hq k hkm).2.2.1,yacc,List.flatMap_def]
theorem yaaj:(n.op=0->inX ns nm cx n (tx ns nm cx)=[39,39])/\(n.op=1->inX ns nm cx n (tx ns nm cx)=cx n)/\(n.op=2->inX ns nm cx n (tx ns nm cx)=nm n.rule):=by
 unfold inX;refine⟨fun h=>if_pos h,fun h=>?_,fun h=>?_⟩
 ·rw[if_neg U,if_pos h]
 ·rw[if_neg U,if_neg U,if_pos h]
end
section
open Go.RowKit
theorem yad0 (op p:Int)(w:World)(ho:0<=op/\op<=9) :
  Calls qab 53 #[je jd op,je jd p] w fun e w'=>e=.returned (.bool (penB op p))/\w'=w:=by
 rcases(by omega:op=0∨op=1∨op=2∨op=3∨op=4∨op=5∨op=6∨op=7∨op=8∨op=9) with rfl|rfl|rfl|rfl|rfl|rfl|rfl|rfl|rfl|rfl
 all_goals
  go_enter Tryz.func53,Tryz.ntmps53;go_wp2;go_ret;exact⟨rfl,rfl⟩
theorem yadd (a b:List Nat)(h:a.length+b.length<=2000000):∀w,(Op.stringOp .add (strOf a) (strOf b)).run qab w=.ok (jh (strOf (a++b))) w:=fun w=>by
 rw[zmq];exact run_string_add_sum w _ _ (by rw[zb0,zb0];omega)
theorem yai6 (a b:Nat)(w:World)(hab:a<=b)(hb:b<256) :
  Calls qab 41 #[je jl (a:Int),je jl (b:Int)] w fun e w'=>e=.returned (jh (strOf (runX (a,b))))/\Below w.heap.size w w':=by
 have hla:=z9a a true;have hlb:=z9a b true;have s1:=yadd (formL a true) (formL b true) U;have s2:=yadd (formL a true) [45] (by simp;omega);have s3:=yadd (formL a true++[45]) (formL b true) (by simp;omega);rw[show strOf [45]=⟨#[45]⟩ from rfl] at s2;have hw:IntKind.u8.wrap ((b:Int)-(a:Int))=((b-a:Nat):Int):=by
  rw[show((b:Int)-(a:Int))=((b-a:Nat):Int) by omega];unfold IntKind.wrap;simp[IntKind.bits,IntKind.signed];omega
 have hr:runX (a,b)=if b-a=0 then formL a true else if b-a=1 then formL a true++formL b true else formL a true++[45]++formL b true:=by
  unfold runX;dsimp only;rcases(by omega:b-a=0∨b-a=1∨2<=b-a) with h|h|h
  ·rw[if_neg U,if_neg U,if_pos h];simp
  ·rw[if_neg U,if_pos U,if_neg U,if_pos h];rfl
  ·rw[if_pos U,if_pos U,if_neg U,if_neg U];simp
 have H1:Hid (∀W,Calls qab 68 #[je jl (a:Int),.bool true] W fun e w'=>e=.returned (jh (strOf (formL a true)))/\Below W.heap.size W w'):=qaa fun W=>yac7 (a:Int) true W U U
 have H2:Hid (∀W,Calls qab 68 #[je jl (b:Int),.bool true] W fun e w'=>e=.returned (jh (strOf (formL b true)))/\Below W.heap.size W w'):=qaa fun W=>yac7 (b:Int) true W U U
 obtain⟨A1,hA1⟩:∃x,strOf (formL a true)=x:=⟨_,rfl⟩;obtain⟨B1,hB1⟩:∃x,strOf (formL b true)=x:=⟨_,rfl⟩;rw[hA1] at s1 s2 H1;rw[hB1] at s1 s3 H2;obtain⟨d,hd⟩:∃d,b-a=d:=⟨_,rfl⟩;rw[hd] at hw hr;have hrs:strOf (runX (a,b))=if d=0 then A1 else if d=1 then strOf (formL a true++formL b true) else strOf (formL a true++[45]++formL b true):=by
  rw[hr,<-hA1];split
  ·rfl
  ·split<;>rfl
 obtain⟨R,hR⟩:∃x,strOf (runX (a,b))=x:=⟨_,rfl⟩;rw[hR] at hrs ⊢;obtain⟨S1,hS1⟩:∃x,strOf (formL a true++formL b true)=x:=⟨_,rfl⟩;obtain⟨S2,hS2⟩:∃x,strOf (formL a true++[45])=x:=⟨_,rfl⟩;obtain⟨S3,hS3⟩:∃x,strOf (formL a true++[45]++formL b true)=x:=⟨_,rfl⟩;rw[hS1] at s1 hrs;rw[hS2] at s2 s3;rw[hS3] at s3 hrs;clear hR hS1 hS2 hS3 hA1 hB1 hr hla hlb;have HE:=qaa hrs;clear hrs;rcases(by omega:d=0∨d=1∨2<=d) with rfl|rfl|h2
 ·obtain rfl:R=A1:=HE.out
  go_enter Tryz.func41,Tryz.ntmps41
  go_wp2_with (first
   |(go_at_call 68;(with_reducible refine(H1.out _).mono ?_);rintro e w1 ⟨rfl,hb1⟩;have HB1:=qaa hb1;clear hb1)
   |(go_at_call 68;(with_reducible refine(H2.out _).mono ?_);rintro e w2 ⟨rfl,hb2⟩;have HB2:=qaa (HB1.out.trans (hb2.mono HB1.out.size));clear hb2))
  go_ret;exact⟨rfl,HB2.out⟩
 ·obtain rfl:R=S1:=HE.out
  go_enter Tryz.func41,Tryz.ntmps41
  go_wp2_with (first
   |(go_at_call 68;(with_reducible refine(H1.out _).mono ?_);rintro e w1 ⟨rfl,hb1⟩;have HB1:=qaa hb1;clear hb1)
   |(go_at_call 68;(with_reducible refine(H2.out _).mono ?_);rintro e w2 ⟨rfl,hb2⟩;have HB2:=qaa (HB1.out.trans (hb2.mono HB1.out.size));clear hb2))
  go_ret;exact⟨rfl,HB2.out⟩
 ·obtain rfl:R=S3:=by
   have:=HE.out;rw[if_neg U,if_neg U] at this;exact this
  have h0:¬(d:Int)=0:=U
  have h1:¬(d:Int)=1:=U
  go_enter Tryz.func41,Tryz.ntmps41
  go_wp2_with (first
   |(go_at_call 68;(with_reducible refine(H1.out _).mono ?_);rintro e w1 ⟨rfl,hb1⟩;have HB1:=qaa hb1;clear hb1)
   |(go_at_call 68;(with_reducible refine(H2.out _).mono ?_);rintro e w2 ⟨rfl,hb2⟩;have HB2:=qaa (HB1.out.trans (hb2.mono HB1.out.size));clear hb2))
  go_ret;exact⟨rfl,HB2.out⟩
end
section
open Go.RowKit
theorem yabj (B b:Nat)(l:List Nat)(w:World)(h:Bld B b l w) :
  Calls qab 52 #[jj (some ⟨b,0,none⟩)] w fun e w'=>e=.returned (jk #[])/\Lib.BuilderAt 73 5 B b (jj (some ⟨b,0,none⟩)) (u8s l) w'/\KW B b w w':=by
 rcases h with h|h
 ·refine(z97 b w h.cell0 h.shape h.frozen0).mono ?_
  rintro e w' ⟨rfl,rfl⟩;have hu:=h.used (jj (some ⟨b,0,none⟩));obtain⟨-,v,hbk,-⟩:=h;exact⟨rfl,hu,Kp.set hbk (.inl rfl) _⟩
 ·refine(yaam b w h.cell0).mono ?_
  rintro e w' ⟨rfl,rfl⟩;exact⟨rfl,h,Kp.refl _⟩
theorem yad1 (B b:Nat)(l:List Nat)(c:Nat)(w:World)(h:Bld B b l w)(hl:l.length<=2000000)(hB:B<=w.heap.size) :
  Calls qab 29 #[jj (some ⟨b,0,none⟩),je jl (c:Int)] w fun e w'=>e=.returned .nilIface/\Bld B b (l++[c]) w'/\KW B b w w':=by
 obtain⟨i0,hi0,hz0,hz1,hz2⟩:=info_parts infoU8;have H:=qaa h;clear h;go_enter Tryz.func29,Tryz.ntmps29
 go_wp2_with (first
  |(go_at_call 52;(with_reducible refine(yabj B b l _ H.out).mono ?_);rintro e w1 ⟨rfl,h1,hb1⟩;obtain⟨hBb,v,hbk,hown,hne⟩:=h1;have HK:=qaa hb1;have hz1':=hb1.size;have hlt:=qei ⟨hBb,v,hbk,hown,hne⟩;have c1:w1.cell? ⟨b,1,none⟩=some v:=(qdi hbk 1).trans rfl;clear hb1)
  |(at_builtin;refine wpList_append_own _ rfl _ _ 71 rfl B 5 i0 (je jl 0) 1 1 qbj hi0 hz0 hz1 hz2 rfl ja _ _ _ rfl (hown.alloc _) ⟨w1.heap.size,0,none⟩ 1 1 [je jl (c:Int)] rfl rfl (zat _ _ _) (by simp[Value.oneCell']) (by rw[zg6];unfold maxLen;omega) (by rw[zg6];omega) (by simp;omega) ?_;intro v' w2 hown' hgrow _;obtain⟨ao,cap,rfl⟩:=z9q hown';obtain⟨hb2,d1,f1⟩:=yaac (heap_alloc _ hbk) hne hgrow))
 go_ret;refine⟨rfl,Or.inr (qfn hBb hb2 ?_ ja),((HK.out.trans (qbo (zaa _ _))).trans (Kp.grown hgrow (yaah (hown.alloc _)))).trans (Kp.set hb2 (.inl rfl) _)⟩;rw[zg6 l,zg6 (l++[c]),qad,zqx];rw[zg6 l] at hown';exact hown'
theorem yaco (B b:Nat)(l:List Nat)(s:ByteArray)(w:World)(h:Bld B b l w)(hl:l.length+s.size<=2000000)(hB:B<=w.heap.size) :
  Calls qab 40 #[jj (some ⟨b,0,none⟩),jh s] w fun e w'=>e=.returned (jk #[je jd (s.size:Int),.nilIface])/\Bld B b (l++bts s) w'/\KW B b w w':=by
 obtain⟨i0,hi0,hz0,hz1,hz2⟩:=info_parts infoU8;have H:=qaa h;clear h;go_enter Tryz.func40,Tryz.ntmps40
 go_wp2_with (first
  |(go_at_call 52;(with_reducible refine(yabj B b l _ H.out).mono ?_);rintro e w1 ⟨rfl,h1,hb1⟩;obtain⟨hBb,v,hbk,hown,hne⟩:=h1;have HK:=qaa hb1;have hz1':=hb1.size;have hlt:=qei ⟨hBb,v,hbk,hown,hne⟩;have c1:w1.cell? ⟨b,1,none⟩=some v:=(qdi hbk 1).trans rfl;clear hb1)
  |(at_builtin;refine Lib.wpList_append_own_string _ rfl _ _ 71 9 rfl B 5 i0 qbj qba hi0 hz0 hz1 hz2 _ _ _ rfl hown s rfl (by rw[zg6];unfold maxLen;omega) (by rw[zg6];omega) U ?_;intro v' w2 hown' hgrow _;obtain⟨ao,cap,rfl⟩:=z9q hown';obtain⟨hb2,d1,f1⟩:=yaac hbk hne hgrow))
 go_ret2
 refine⟨rfl,Or.inr (qfn hBb hb2 ?_ ja),(HK.out.trans (Kp.grown hgrow (yaah hown))).trans (Kp.set hb2 (.inl rfl) _)⟩;rw[zg6 l,zg6 (l++bts s),qad,yaa8,zaj,<-z98];rw[zg6 l] at hown';exact hown'
theorem yacd (B b:Nat)(l:List Nat)(c:Nat)(i:Int)(hi:(c:Int)=i)(w:World)(h:Bld B b l w)(hl:l.length<=2000000)(hB:B<=w.heap.size) :
  Calls qab 29 #[jj (some ⟨b,0,none⟩),je jl i] w fun e w'=>e=.returned .nilIface/\Bld B b (l++[c]) w'/\KW B b w w':=by
 subst hi;exact yad1 B b l c w h hl hB
theorem yacx (f:Nat->Bool):∀k,(memb f k).length=cnt f k
 |0=>rfl
 |k+1=>by
  rw[yaay,qad,yacx f k];show cnt f k+_=cnt f k+(f k).toNat;cases f k<;>rfl
theorem yahk {x:Nat × Nat}(h1:x.1<256)(h2:x.2<256):∀c,c ∈ runX x->c<256:=fun c hc=>by
 unfold runX at hc;rcases qau.1 hc with h|h
 ·exact yabm _ _ h1 _ h
 ·rcases qau.1 h with h|h
  ·split at h
   ·rw[qam.1 h];decide
   ·cases h
  ·split at h
   ·exact yabm _ _ h2 _ h
   ·cases h
theorem yace (f:Nat->Bool):∀c,c ∈ clsX f->c<256:=fun c hc=>by
 have hl:∀x,x ∈ memb f 256->x<256:=fun x hx=>(z9v.1 hx).1
 unfold clsX at hc;split at hc
 ·rw[qam.1 hc];decide
 ·split at hc
  ·exact yagr _ hl c hc
  ·rcases List.mem_cons.1 hc with rfl|hc
   ·decide
   ·rcases qau.1 hc with hc|hc
    ·obtain⟨x,hxm,hx⟩:=List.mem_flatMap.1 hc
     have:=yabp f 256 (qac _) x hxm;exact yahk this.1 this.2 c hx
    ·rw[qam.1 hc];decide
theorem yahl (f:Nat->Bool)(w:World):Calls qab 38 #[.agg #[je jg (setW f 0),je jg (setW f 1),je jg (setW f 2),je jg (setW f 3)]] w fun e w'=>∃a cap,e=.returned (jf a (memb f 256).length cap)/\RowAt w' (jf a (memb f 256).length cap) (u8s (memb f 256))/\Below w.heap.size w w':=by
 refine(yagz f w).mono ?_;rintro e w' ⟨v,rfl,hr,hb⟩;have h:=RowAt.of_owns (cs:=u8s (memb f 256)) hr (by rw[zg6]);have h':=h;obtain⟨a,cap,rfl,-⟩:=h';have e:(u8s (memb f 256)).length=(memb f 256).length:=zg6 _;rw[e] at h ⊢;exact⟨a,cap,rfl,h,hb⟩
theorem yaau (f:Nat->Bool)(w:World):Calls qab 17 #[.agg #[je jg (setW f 0),je jg (setW f 1),je jg (setW f 2),je jg (setW f 3)]] w fun e w'=>e=.returned (jh (strOf (clsX f)))/\Below w.heap.size w w':=by
 obtain⟨n,hn⟩:∃n,(memb f 256).length=n:=⟨_,rfl⟩;obtain⟨m,hm⟩:∃m,(z85 f 256).length=m:=⟨_,rfl⟩;have hcnt:cnt f 256=n:=by rw[<-hn,yacx]
 have HCT:=qaa fun(W:World)=>yaiy f n (n:Int) hcnt rfl W
 have HBY:=qaa fun(W:World)=>yahl f W
 have HRU:=qaa fun(W:World)=>yaix f W
 have hlt:=yabo f 256;have hrl:=yaab f 256;have hrm:=fun x hx=>yabp f 256 (qac _) x hx
 have hro:=(z9n f 0 256 (qac _)).1;rw[hn] at HBY hlt;rw[hm] at HRU hrl;have HN:=qaa hn;have HM:=qaa hm;have HRM:=qaa hrm;have HRO:=qaa hro;have HB0:=qaa (zaa w (.cells #[je jg (setW f 0),je jg (setW f 1),je jg (setW f 2),je jg (setW f 3)] 41));have HS0:=qaa (Bl.new w 41 #[je jg (setW f 0),je jg (setW f 1),je jg (setW f 2),je jg (setW f 3)]);clear hn hm hrm hro hcnt;by_cases h1:n=1
 ·subst h1
  clear HRU;go_enter Tryz.func17,Tryz.ntmps17
  go_wp2_with (first
   |(go_at_call 36;(with_reducible refine(HCT.out _).mono ?_);rintro e w0 ⟨rfl,hb⟩;have HS1:=HS0.out.below hb;have s0:=HS1.cell (o:=0) (u:=je jg (setW f 0)) rfl;have s1:=HS1.cell (o:=1) (u:=je jg (setW f 1)) rfl;have s2:=HS1.cell (o:=2) (u:=je jg (setW f 2)) rfl;have s3:=HS1.cell (o:=3) (u:=je jg (setW f 3)) rfl;have HB1:=qaa (HB0.out.trans (hb.mono HB0.out.size));clear hb HS1)
   |(go_at_call 38;(with_reducible refine(HBY.out _).mono ?_);rintro e w1 ⟨a,cap,rfl,hr,hb⟩;have HR:=qaa hr;have HB2:=qaa (HB1.out.trans (hb.mono HB1.out.size));clear hb hr)
   |(go_at_call 37;(with_reducible refine(yabg (memb f 256) _ _ HR.out (fun x hx=>(z9v.1 hx).1) (by rw[HN.out];decide)).mono ?_);rintro e w2 ⟨rfl,hb⟩;have HB3:=qaa (HB2.out.trans (hb.mono HB2.out.size));clear hb))
  go_ret;refine⟨?_,HB3.out⟩;have e:clsX f=litL (memb f 256):=by
   unfold clsX;rw[if_neg (by rw[HN.out];decide),if_pos HN.out];rfl
  rw[e];rfl
 by_cases h256:n=256
 ·subst h256
  clear HRU HBY;go_enter Tryz.func17,Tryz.ntmps17
  go_wp2_with (go_at_call 36;(with_reducible refine(HCT.out _).mono ?_);rintro e w1 ⟨rfl,hb⟩;have HB1:=qaa (HB0.out.trans (hb.mono HB0.out.size));clear hb)
  go_ret;refine⟨?_,HB1.out⟩;have e:clsX f=[46]:=by unfold clsX;rw[if_pos HN.out]
  rw[e];rfl
 have q1:((n:Int) == 256)=false:=by rw[beq_eq_false_iff_ne];omega
 have q2:((n:Int) == 1)=false:=by rw[beq_eq_false_iff_ne];omega
 have HNE:=qaa (And.intro h256 h1);clear h256 h1 HBY;go_enter Tryz.func17,Tryz.ntmps17
 go_upto_region 7 with(go_at_call 36;(with_reducible refine(HCT.out _).mono ?_);rintro e w1 ⟨rfl,hb⟩;have HS1:=qaa (HS0.out.below hb);have HB1:=qaa (HB0.out.trans (hb.mono HB0.out.size));clear hb)
 have h0:Bld w1.heap.size w1.heap.size [] (w1.alloc (.cells #[jj none,jf none 0 0] 73)):=Lib.fresh_isBuilder 73 5 w1;have HSb:=qaa (HS1.out.below (zaa w1 (.cells #[jj none,jf none 0 0] 73)));obtain⟨W1,hW1⟩:∃W1,w1.alloc (.cells #[jj none,jf none 0 0] 73)=W1:=⟨_,rfl⟩;have hbW:Below w1.heap.size w1 W1:=hW1 ▸ zaa w1 (.cells #[jj none,jf none 0 0] 73);rw[hW1] at h0 HSb ⊢;have HBW1:=qaa (HB1.out.trans (hbW.mono HB1.out.size));have hbs:w1.heap.size<=W1.heap.size:=hbW.size;have hsb:w.heap.size<w1.heap.size:=HS1.out.lt;have hwb:w.heap.size<=w1.heap.size:=HB1.out.size;have H0:=qaa h0;clear h0 hW1 hbW;obtain⟨b,hbq⟩:∃b,w1.heap.size=b:=⟨_,rfl⟩;rw[hbq] at H0 hbs hsb hwb ⊢;clear hbq
 go_upto_region 8 with(go_at_call 29;(with_reducible refine(yacd b b [] 91 91 rfl _ H0.out jc hbs).mono ?_);rintro e w2 ⟨rfl,h1,hk1⟩;have H1:=qaa h1;have HK1:=qaa hk1;have HS2:=HSb.out;replace HS2:=hk1.bl HS2 U U ja;have hz2:=hk1.size;clear h1 hk1)
 have s0:=HS2.cell (o:=0) (u:=je jg (setW f 0)) rfl;have s1:=HS2.cell (o:=1) (u:=je jg (setW f 1)) rfl;have s2:=HS2.cell (o:=2) (u:=je jg (setW f 2)) rfl;have s3:=HS2.cell (o:=3) (u:=je jg (setW f 3)) rfl;clear HS2
 go_wp2_with (go_at_call 39;(with_reducible refine(HRU.out _).mono ?_);rintro e w3 ⟨rv,rfl,hr,hb⟩;obtain⟨ra,rc,rfl⟩:=zag hr;have HR:=qaa hr;have H3:=qaa (Bld.grown H1.out hb);have HK3:=qaa (HK1.out.trans (qbo (base:=b) (xb:=b) (yb:=b) (t1:=5) hb));have hz3:=hb.size;clear hb hr s0 s1 s2 s3)
 go_loopw [19] (fun c wr=>∃k:Nat,k<=m/\c=je jd k/\Bld b b (91::((z85 f 256).take k).flatMap runX) wr/\KW b b w3 wr) (fun c _=>m-(intOf c).toNat)
 case atStart=>exact⟨0,Nat.zero_le _,rfl,H3.out,Kp.refl _⟩
 case round=>
  obtain⟨k,hk,rfl,hs,hkp⟩:=hrel;have hz:=hkp.size;have hsz:(91::((z85 f 256).take k).flatMap runX).length<=2400:=by
   have h1:=yabr ((z85 f 256).take k);rw[qbn] at h1;rw[qah];omega
  have hrow:=HR.out;have hblt:b<w3.heap.size:=by
   rcases H3.out with⟨_,v,h,_⟩|⟨_,v,h,_⟩<;>exact(Array.getElem?_eq_some_iff.1 h).1
  have hrne:(Value.slice ra m rc).ownBlock≠some b:=by
   rcases H3.out with⟨_,v,h,_⟩|⟨_,v,h,_⟩<;>exact zaq hrow h ja
  have hrow2:=hkp.own hrow ja hrne hrne;by_cases hkm:k<m
  ·obtain⟨x,hx⟩:∃x,(z85 f 256)[k]?=some x:=⟨_,qae (by rw[HM.out];exact hkm)⟩
   have hx1:=HRM.out x (qan hx);have hx2:=HRO.out x (qan hx);have hp:PairsAt wr (jf ra m rc) (z85 f 256):=PairsAt.of_owns (by rw[HM.out];exact hrow2);obtain⟨g,rfl,d0,d1⟩:=hp.get hx;obtain⟨lo,hlo⟩:∃lo,x.1=lo:=⟨_,rfl⟩;obtain⟨hi,hhi⟩:∃hi,x.2=hi:=⟨_,rfl⟩;have HT:=qaa (za3 _ k _ hx);have hxe:x=(lo,hi):=by rw[<-hlo,<-hhi]
   have HXE:=qaa hxe;rw[hlo,hhi] at hx1 hx2;rw[hlo] at d0;rw[hhi] at d1;have hxl:=yafm (lo,hi);have hbt:bts (strOf (runX (lo,hi)))=runX (lo,hi):=zf7 _ (fun c hc=>yahk hx1.1 hx1.2 c hc);obtain⟨SX,hSX⟩:∃SX,strOf (runX (lo,hi))=SX:=⟨_,rfl⟩;have hSXl:SX.size<=9:=by rw[<-hSX,zb0];exact hxl
   have HE:=qaa fun(W:World)=>yai6 lo hi W hx2 hx1.2
   rw[hSX] at HE hbt;have HBT:=qaa hbt;have k1:(k:Int)<(m:Int):=U
   have HSR:=qaa hs;have HKR:=qaa hkp;clear hx hlo hhi hxe hx1 hx2 hxl hbt hSX hrow hrow2 hrne hp hs hkp hblt;obtain⟨L,hL⟩:∃L,91::((z85 f 256).take k).flatMap runX=L:=⟨_,rfl⟩;rw[hL] at HSR hsz;have HL:=qaa hL;clear hL
   go_wp2_with (first
    |(go_at_call 41;(with_reducible refine(HE.out _).mono ?_);rintro e w5 ⟨rfl,hb5⟩;have hn4:=zaa wr (.cells #[je jl (lo:Int),je jl (hi:Int)] 87);have HS5:=qaa ((Bld.grown HSR.out hn4).grown hb5);have HK5:=qaa ((HKR.out.trans (qbo hn4)).trans (qbo hb5));have hz5:=hb5.size;have hz4:=hn4.size;clear hb5 hn4)
    |(go_at_call 40;(with_reducible refine(yaco b b L SX _ HS5.out U U).mono ?_);rintro e w6 ⟨rfl,h6,hk6⟩;have HS6:=qaa h6;have HK6:=qaa (HK5.out.trans hk6);clear h6 hk6))
   exact⟨⟨k+1,U,by go_num,by rw[HT.out,List.flatMap_append,List.flatMap_cons,List.flatMap_nil,List.append_nil,HXE.out,<-List.cons_append,HL.out,<-HBT.out];exact HS6.out,HK6.out⟩,by simp[intOf];omega⟩
  ·obtain rfl:k=m:=U
   have k1:¬(k:Int)<(k:Int):=U
   have HSR:=qaa hs;have HKR:=qaa hkp;have hcl:91::((z85 f 256).take k).flatMap runX++[93]=clsX f:=by
    rw[qa4 (by rw[HM.out];exact qac _)];unfold clsX;rw[if_neg (by rw[HN.out];exact HNE.out.1),if_neg (by rw[HN.out];exact HNE.out.2)];rfl
   have hcx:=yace f;have HCL:=qaa hcl;have HCX:=qaa hcx;clear hcl hcx hrow hrow2 hrne hs hkp hblt
   go_wp2_with (first
    |(go_at_call 29;(with_reducible refine(yacd b b _ 93 93 rfl _ HSR.out U U).mono ?_);rintro e w5 ⟨rfl,h5,hk5⟩;rw[HCL.out] at h5;have HS5:=qaa h5;have HK5:=qaa (HKR.out.trans hk5);have hz5:=hk5.size;clear h5 hk5)
    |(go_at_call 30;(with_reducible refine(yaa4 b b (clsX f) _ HS5.out HCX.out U).mono ?_);rintro e w6 ⟨rfl,hb6⟩;have HB6:=qaa ((((HK3.out.trans HK5.out).below (qac _) (qac _) U).trans hb6).mono hwb);clear hb6))
   go_ret;exact⟨rfl,HBW1.out.trans HB6.out⟩
end
section
open Go.RowKit
theorem yaa6 {a:Option Addr}{m c:Nat}{ns:List PN}(h:NodesAt w (jf a m c) ns){x:PN}(hx:ns[i]?=some x):∃b off,a=some ⟨b,off,none⟩/\NodeAt w b (off+i*7) x:=by
 obtain⟨-,a',c',hv,hp⟩:=h;injection hv with h1 h2 h3;subst h1;rcases hp with hp|⟨b,o,rfl,hc⟩
 ·rw[hp] at hx;cases hx
 ·exact⟨b,o,rfl,hc i x hx⟩
theorem yacf {a:Option Addr}{m c:Nat}{rs:List PR}(h:RulesIn w (jf a m c) rs){x:PR}(hx:rs[i]?=some x):∃b off,a=some ⟨b,off,none⟩/\RuleAt w b (off+i*2) x:=by
 obtain⟨-,a',c',hv,hp⟩:=h;injection hv with h1 h2 h3;subst h1;rcases hp with hp|⟨b,o,rfl,hc⟩
 ·rw[hp] at hx;cases hx
 ·exact⟨b,o,rfl,hc i x hx⟩
theorem yaf5 {sep:List Nat}{f:Int->List Nat}{l:List Int}{k:Nat}{x:Int}(h:l[k]?=some x):joinT sep ((l.take (k+1)).map f)=joinT sep ((l.take k).map f)++((if k=0 then [] else sep)++f x):=by
 have hk:=(qag.1 h).1;rw[za3 l k x h,List.map_append,List.map_singleton];by_cases h0:k=0
 ·subst h0
  rw[if_pos rfl];rfl
 ·rw[if_neg h0,yacu]
  intro e;have:=congrArg List.length e;rw[qaw,qbn,List.length_nil] at this;omega
theorem yai7 {sep:List Nat}{f:Int->List Nat}(l:List Int)(k:Nat):(joinT sep ((l.take k).map f)).length<=(joinT sep (l.map f)).length:=by
 rw[List.map_take];exact yacv _ k
theorem KC.le {ns:List PN}:∀ {ks:List Int} {a b:Int},-1<=a->KC ns a ks b->a<=b
 | [],a,b,_,h=>by obtain rfl:a=b:=h;exact Int.le_refl _
 |k::ks,a,b,ha,⟨h1,h2,h3,h4⟩=>by
  have:=zj5 ns k U;have:=KC.le U h4;omega
def SgnAt (w:World):Prop:=w.cell? ⟨0,5,none⟩=some (je jl 42)/\w.cell? ⟨0,6,none⟩=some (je jl 43)/\w.cell? ⟨0,7,none⟩=some (je jl 63)/\w.cell? ⟨0,8,none⟩=some (je jl 38)/\w.cell? ⟨0,9,none⟩=some (je jl 33)
theorem SgnAt.kept {n:Nat}{w':World}(h:SgnAt w)(hb:Below n w w')(hn:w.heap.size<=n):SgnAt w':=by
 obtain⟨h0,h1,h2,h3,h4⟩:=h;have hl:=zai h0;have hc:=fun o=>(bcell hb).1 0 o U
 exact⟨(hc 5).trans h0,(hc 6).trans h1,(hc 7).trans h2,(hc 8).trans h3,(hc 9).trans h4⟩
section
variable (rs:List PR) (ns:List PN) (ra na:Option Addr) (rc nc:Nat) (W:World)
def NodeC (x p:Int):Prop:=∀(w:World) (b k:Nat) (l:List Nat),Below W.heap.size W w->Pw W.heap.size b (jf ra rs.length rc) (jf na ns.length nc) k l w->x-exL ns x<=(k:Int)->k<=10000->l.length+(pX ns (nmOf rs) cxN p x).length<=1000000 ->
 Calls qab 31 #[jj (some ⟨b,0,none⟩),je jd x,je jd p] w fun e w'=>e=.returned (jk #[])/\Pw W.heap.size b (jf ra rs.length rc) (jf na ns.length nc) (k-(x-exL ns x).toNat) (l++pX ns (nmOf rs) cxN p x) w'/\KW W.heap.size b w w'
def BareC (i:Nat)(n:PN):Prop:=∀(ka:Option Addr) (kc:Nat) (w:World) (b k:Nat) (l:List Nat),IntsAt W (jf ka n.kids.length kc) n.kids->Below W.heap.size W w->Pw W.heap.size b (jf ra rs.length rc) (jf na ns.length nc) k l w->(i:Int)-1-exL ns i<=(k:Int)->k<=10000->l.length+(inX ns (nmOf rs) cxN n (tx ns (nmOf rs) cxN)).length<=1000000 ->
 Calls qab 54 #[jj (some ⟨b,0,none⟩),.agg #[je jd n.op,jf ka n.kids.length kc,je jd n.rule,je jg n.s0,je jg n.s1,je jg n.s2,je jg n.s3]] w fun e w'=>e=.returned (jk #[])/\Pw W.heap.size b (jf ra rs.length rc) (jf na ns.length nc) (k-((i:Int)-1-exL ns i).toNat) (l++inX ns (nmOf rs) cxN n (tx ns (nmOf rs) cxN)) w'/\KW W.heap.size b w w'
end
theorem z9x (rs:List PR)(ns:List PN)(ra na:Option Addr)(rc nc:Nat)(W:World)(p:Int)(ks:List Int)(ka:Option Addr)(kc:Nat)(S:ByteArray)(sep:List Nat)(hS:bts S=sep)(hI:IntsAt W (jf ka ks.length kc) ks)(hkl:ks.length<=10000)(hrec:∀x,x ∈ ks->NodeC rs ns ra na rc nc W x p)
  (a c:Int) (ha:-1<=a) (hKC:KC ns a ks c) (w:World) (b k:Nat) (l:List Nat) (hb:Below W.heap.size W w) (h:Pw W.heap.size b (jf ra rs.length rc) (jf na ns.length nc) k l w) (hk:c-a<=(k:Int)) (hk2:k<=10000) (hl:l.length+(joinT sep (ks.map (pX ns (nmOf rs) cxN p))).length<=1000000) :
  Calls qab 87 #[jj (some ⟨b,0,none⟩),je jd p,jh S,jf ka ks.length kc] w fun e w'=>e=.returned (jk #[])/\Pw W.heap.size b (jf ra rs.length rc) (jf na ns.length nc) (k-(c-a).toNat) (l++joinT sep (ks.map (pX ns (nmOf rs) cxN p))) w'/\KW W.heap.size b w w':=by
 have hW:W.heap.size<=w.heap.size:=hb.size;obtain⟨kn,hkn⟩:∃kn,ks.length=kn:=⟨_,rfl⟩;obtain⟨f,hf⟩:∃f,pX ns (nmOf rs) cxN p=f:=⟨_,rfl⟩;unfold NodeC at hrec;rw[hf] at hrec hl ⊢;rw[hkn] at hI hkl ⊢;obtain⟨rv,hrv⟩:∃rv,Value.slice ra rs.length rc=rv:=⟨_,rfl⟩;obtain⟨nv,hnv⟩:∃nv,Value.slice na ns.length nc=nv:=⟨_,rfl⟩;rw[hrv,hnv] at h hrec ⊢;obtain⟨B,hBq⟩:∃B,W.heap.size=B:=⟨_,rfl⟩;rw[hBq] at hb h hrec hW ⊢;have HB:=qaa hb;have HP:=qaa h;have HR:=qaa hrec;have HI:=qaa fun(wr:World) (hw:Below B w wr)=>show IntsAt wr (jf ka kn kc) ks from hI.kept (hb.trans hw) (Nat.le_of_eq hBq)
 have HKN:=qaa hkn;have HL:=qaa hl;have HK:=qaa (And.intro hk hk2);have HKC:=qaa hKC;have HBb:=qaa h.le;have HSS:=qaa hS;clear hrec hI hkn hl hk hk2 hb h hrv hnv hf hKC hS;go_enter Tryz.func87,Tryz.ntmps87;go_wp2
 go_loopw [12] (fun s wr=>∃(j:Nat) (d:Int),j<=kn/\s=je jd j/\a<=d/\KC ns d (ks.drop j) c/\Pw B b rv nv (k-(d-a).toNat) (l++joinT sep ((ks.take j).map f)) wr/\KW B b w wr) (fun s _=>kn-(intOf s).toNat)
 case atStart=>exact⟨0,a,Nat.zero_le _,rfl,Int.le_refl _,HKC.out,by simpa [joinT] using HP.out,Kp.refl _⟩
 case round=>
  obtain⟨j,d,hj,rfl,had,hkc,hpw,hkw⟩:=hrel;have hz:=hkw.size;by_cases hlt:j<kn
  ·obtain⟨x,hx⟩:∃x,ks[j]?=some x:=⟨_,qae (by rw[HKN.out];exact hlt)⟩
   have hdr:ks.drop j=x::ks.drop (j+1):=by
    have:=List.drop_eq_getElem_cons (l:=ks) (i:=j) (by rw[HKN.out];exact hlt);rw[this];congr 1;exact(qag.1 hx).2
   rw[hdr] at hkc;obtain⟨hex,hx0,hxl,hkc2⟩:=hkc;have hxc:=KC.le U hkc2;have hlx:=zj5 ns x U;have hbw:Below B w wr:=hkw.below HBb.out HBb.out hW;obtain⟨kb,ko,rfl,ck⟩:=(HI.out wr hbw).at' hx;have hnx:=yaf5 (sep:=sep) (f:=f) hx;have hj1:=yai7 (sep:=sep) (f:=f) ks (j+1);rw[hnx] at hj1;have hll:=HL.out;have hkk:=HK.out;have HNX:=qaa hnx;have HR2:=qaa (HR.out x (qan hx));have HKC2:=qaa hkc2;obtain⟨J,hJ⟩:∃J,joinT sep ((ks.take j).map f)=J:=⟨_,rfl⟩;obtain⟨k',hk'⟩:∃k',k-(d-a).toNat=k':=⟨_,rfl⟩;rw[hJ,hk'] at hpw;rw[hJ] at hj1 HNX;have e3:k'-(x-exL ns x).toNat=k-(x-a).toNat:=U
   have e4:x-exL ns x<=(k':Int):=U
   have e5:k'<=10000:=U
   have HE:=qaa (And.intro e3 (And.intro e4 (And.intro e5 had)));have hax:a<=x:=U
   have HAX:=qaa hax;have HPW:=qaa hpw;have HKW:=qaa hkw;have HBW:=qaa (HB.out.trans hbw);have k2:(j:Int)<(kn:Int):=U
   have hss:S.size<=sep.length:=by rw[<-HSS.out,zaj];exact qac _
   by_cases h0:j=0
   ·rw[if_pos h0] at hj1 HNX
    rw[qad,qad] at hj1;have e1:¬(0:Int)<(j:Int):=U
    have hlen:(l++J).length+(f x).length<=1000000:=by rw[qad];simp at hj1;omega
    have HLE:=qaa hlen;clear hlen h0 hj1 hll hkk hax e3 e4 e5 hpw hkw hbw hkc2 hdr hx hnx hJ hk' hxc hlx hex hx0 hxl had hss
    go_wp2_with (go_at_call 31;(with_reducible refine(HR2.out _ _ _ _ HBW.out HPW.out HE.out.2.1 HE.out.2.2.1 HLE.out).mono ?_);rintro e w2 ⟨rfl,hp2,hk2⟩;rw[HE.out.1] at hp2;have HP2:=qaa hp2;have HK2:=qaa (HKW.out.trans hk2);clear hp2 hk2)
    exact⟨⟨j+1,x,U,by go_num,HAX.out,HKC2.out,by rw[HNX.out,List.nil_append,<-qao];exact HP2.out,HK2.out⟩,by simp[intOf];omega⟩
   ·rw[if_neg h0] at hj1 HNX
    rw[qad,qad] at hj1;have e1:(0:Int)<(j:Int):=U
    have hlen:(l++J++sep).length+(f x).length<=1000000:=by rw[qad,qad];omega
    have hlen2:(l++J).length+S.size<=2000000:=by rw[qad];omega
    have HLE:=qaa (And.intro hlen hlen2);have hzz:B<=wr.heap.size:=U
    clear hlen hlen2 h0 hj1 hll hkk hax e3 e4 e5 hpw hkw hbw hkc2 hdr hx hnx hJ hk' hxc hlx hex hx0 hxl had hss
    go_wp2_with (first
     |(go_at_call 40;(with_reducible refine(yaai B b rv nv _ _ S _ HPW.out HLE.out.2 hzz).mono ?_);rintro e w1 ⟨rfl,hp1,hk1⟩;rw[HSS.out] at hp1;have HP1:=qaa hp1;have HK1:=qaa (HKW.out.trans hk1);have HB1:=qaa (HBW.out.trans (hk1.below HBb.out HBb.out hzz));clear hp1 hk1)
     |(go_at_call 31;(with_reducible refine(HR2.out _ _ _ _ HB1.out HP1.out HE.out.2.1 HE.out.2.2.1 HLE.out.1).mono ?_);rintro e w2 ⟨rfl,hp2,hk2⟩;rw[HE.out.1] at hp2;have HP2:=qaa hp2;have HK2:=qaa (HK1.out.trans hk2);clear hp2 hk2))
    exact⟨⟨j+1,x,U,by go_num,HAX.out,HKC2.out,by rw[HNX.out,<-qao,<-qao];exact HP2.out,HK2.out⟩,by simp[intOf];omega⟩
  ·obtain rfl:j=kn:=U
   have k2:¬(j:Int)<(j:Int):=U
   rw[List.drop_eq_nil_of_le (by rw[HKN.out];exact qac _)] at hkc;rw[qa4 (by rw[HKN.out];exact qac _)] at hpw;obtain rfl:d=c:=hkc;have HPW:=qaa hpw;have HKW:=qaa hkw;clear hpw hkw;go_wp2
   go_end0
   exact⟨rfl,HPW.out,HKW.out⟩
theorem yad2 (rs:List PR)(ns:List PN)(ra na:Option Addr)(rc nc:Nat)(W:World)(i:Nat)(p:Int)(n:PN)(hn:ns[i]?=some n)(ho:0<=n.op/\n.op<=9)(hx:AllEx ns)(hN:NodesAt W (jf na ns.length nc) ns)(hbare:BareC rs ns ra na rc nc W i n):NodeC rs ns ra na rc nc W (i:Int) p:=by
 intro w b k l hb h hk hk2 hl;unfold BareC at hbare;have hil:(i:Int)<(ns.length:Int):=by have:=(qag.1 hn).1;omega
 have hex:=zj5 ns i (hx i U hil);obtain⟨e,heq⟩:∃e,exL ns i=e:=⟨_,rfl⟩;rw[heq] at hex hk hbare ⊢;have hpx:=pX_eq (nm:=nmOf rs) (cx:=cxN) hn p;obtain⟨X,hX⟩:∃X,inX ns (nmOf rs) cxN n (tx ns (nmOf rs) cxN)=X:=⟨_,rfl⟩;rw[hX] at hpx hbare;rw[hpx] at hl ⊢;obtain⟨nb,no,rfl,kv,c0,c1,c2,c3,c4,c5,c6,hK,hkl⟩:=yaa6 hN hn;obtain⟨ka,kc,rfl,-⟩:∃ka kc,kv=jf ka n.kids.length kc/\True:=by
  obtain⟨a,c,e,-⟩:=hK;exact⟨a,c,e,trivial⟩
 have HBA:=qaa fun w b k l=>hbare ka kc w b k l hK
 have hW:W.heap.size<=w.heap.size:=hb.size;have hlt:=zai c0;have hcc:=(bcell hb).1;have d0:=(hcc nb (no+i*7) hlt).trans c0;have d1:=(hcc nb (no+i*7+1) hlt).trans c1;have d2:=(hcc nb (no+i*7+2) hlt).trans c2;have d3:=(hcc nb (no+i*7+3) hlt).trans c3;have d4:=(hcc nb (no+i*7+4) hlt).trans c4;have d5:=(hcc nb (no+i*7+5) hlt).trans c5;have d6:=(hcc nb (no+i*7+6) hlt).trans c6;have hwb:=h.lt;have hBb:=h.le;have hnb:nb≠b:=U
 obtain⟨rv,hrv⟩:∃rv,Value.slice ra rs.length rc=rv:=⟨_,rfl⟩;rw[hrv] at h HBA ⊢;obtain⟨nn,hnn⟩:∃nn,ns.length=nn:=⟨_,rfl⟩;rw[hnn] at h HBA hil ⊢;obtain⟨kn,hkn⟩:∃kn,n.kids.length=kn:=⟨_,rfl⟩;rw[hkn] at d1 HBA;obtain⟨B,hBq⟩:∃B,W.heap.size=B:=⟨_,rfl⟩;rw[hBq] at hb h HBA hW hBb ⊢;have g1:=h.cell1;have g4:=h.cell4;have gf:=h.free 4;have hlf:=h.left (k-1);have i0:¬(i:Int)<0:=U
 have i1:¬(nn:Int)<=(i:Int):=U
 have i2:(0:Int)<=(i:Int):=U
 have i3:((k:Int) == 0)=false:=by rw[beq_eq_false_iff_ne];omega
 have i4:¬(k:Int)=0:=U
 have v1:IntKind.i64.wrap ((k:Int)-1)=((k-1:Nat):Int):=by rw[show(k:Int)-1=((k-1:Nat):Int) by omega];exact IntWalk.i64_in _ U
 have hk1:(k-1-((i:Int)-1-e).toNat)=k-((i:Int)-e).toNat:=U
 have hk3:(i:Int)-1-e<=((k-1:Nat):Int):=U
 have hk4:k-1<=10000:=U
 have HKK:=qaa (And.intro hk1 (And.intro hk3 hk4));have HENC:=qaa fun W=>yad0 n.op p W ho
 obtain⟨q,hq⟩:∃q,penB n.op p=q:=⟨_,rfl⟩;rw[hq] at hl HENC ⊢;have HL:=qaa hl;have HB:=qaa hb;have HLF:=qaa hlf;have HBb:=qaa hBb;clear hex hk hk2 hbare hX hpx c0 c1 c2 c3 c4 c5 c6 hK hkl hcc hlt hN hn hx heq hnn hkn hBq hq hrv ho hl hb hlf hk1 hk3 hk4 h;obtain⟨kp,hkp⟩:∃kp,k-1=kp:=⟨_,rfl⟩;rw[hkp] at v1 HKK HLF;clear hkp;go_enter Tryz.func31,Tryz.ntmps31
 go_upto_region 2 with fail
 obtain⟨W1,hW1⟩:∃W1,w.setCell ⟨b,4,none⟩ (je jd (kp:Int))=W1:=⟨_,rfl⟩;rw[hW1] at HLF ⊢;have hp1:=HLF.out.1;have hk1:=HLF.out.2;have g1:=hp1.cell1;have hcell:∀o v,w.cell? ⟨nb,o,none⟩=some v->W1.cell? ⟨nb,o,none⟩=some v:=fun o v hv=>by
  rw[<-hW1];exact(World.cell?_setCell_other _ _ _ _ (by intro hh;injection hh with hh;exact hnb hh.symm)).trans hv
 replace d0:=hcell _ _ d0;replace d1:=hcell _ _ d1;replace d2:=hcell _ _ d2;replace d3:=hcell _ _ d3;replace d4:=hcell _ _ d4;replace d5:=hcell _ _ d5;replace d6:=hcell _ _ d6;have hz1:=hk1.size;have HB1:=qaa (HB.out.trans (hk1.below HBb.out HBb.out hW));have hbl:b<W1.heap.size:=hp1.lt;clear hcell hW1 g4 gf hp1 hk1 v1 i3 i4
 go_upto_region 3 with fail
 have HX:=qaa (Bl.new W1 54 #[je jd n.op,jf ka kn kc,je jd n.rule,je jg n.s0,je jg n.s1,je jg n.s2,je jg n.s3]);have hn2:=zaa W1 (.cells #[je jd n.op,jf ka kn kc,je jd n.rule,je jg n.s0,je jg n.s1,je jg n.s2,je jg n.s3] 54);have HP2:=qaa (HLF.out.1.grown hn2);have HK2:=qaa (HLF.out.2.trans (qbo (base:=B) (xb:=b) (yb:=b) (t1:=5) hn2));have HB2:=qaa (HB1.out.trans (hn2.mono U));have hz2:W1.heap.size<=(W1.alloc (.cells #[je jd n.op,jf ka kn kc,je jd n.rule,je jg n.s0,je jg n.s1,je jg n.s2,je jg n.s3] 54)).heap.size:=hn2.size;obtain⟨W2,hW2⟩:∃W2,W1.alloc (.cells #[je jd n.op,jf ka kn kc,je jd n.rule,je jg n.s0,je jg n.s1,je jg n.s2,je jg n.s3] 54)=W2:=⟨_,rfl⟩;rw[hW2] at HX HP2 HK2 HB2 hz2 ⊢;obtain⟨B1,hB1q⟩:∃B1,W1.heap.size=B1:=⟨_,rfl⟩;rw[hB1q] at HX hz1 hbl hz2 ⊢;clear hW2 hn2 d0 d1 d2 d3 d4 d5 d6 g1 HLF hB1q;have hxb:B1≠b:=U
 have hzw:B<=W2.heap.size:=U
 have x0:=HX.out.cell (o:=0) (u:=je jd n.op) rfl;have x1:=HX.out.cell (o:=1) (u:=jf ka kn kc) rfl;have x2:=HX.out.cell (o:=2) (u:=je jd n.rule) rfl;have x3:=HX.out.cell (o:=3) (u:=je jg n.s0) rfl;have x4:=HX.out.cell (o:=4) (u:=je jg n.s1) rfl;have x5:=HX.out.cell (o:=5) (u:=je jg n.s2) rfl;have x6:=HX.out.cell (o:=6) (u:=je jg n.s3) rfl;have xl:=HX.out.lt;cases q with
 |false=>
  have hl2:l.length+X.length<=1000000:=HL.out
  go_wp2_with (first
   |(go_at_call 53;(with_reducible refine(HENC.out _).mono ?_);rintro e w3 ⟨rfl,hw3⟩;obtain rfl:=hw3.symm;clear hw3)
   |(go_at_call 54;(with_reducible refine(HBA.out _ _ _ _ HB2.out HP2.out HKK.out.2.1 HKK.out.2.2 hl2).mono ?_);rintro e w4 ⟨rfl,hp4,hk4⟩;rw[HKK.out.1] at hp4;have HP4:=qaa hp4;have HK4:=qaa (HK2.out.trans hk4);clear hp4 hk4))
  refine bodyPost_ret (results_none rfl _ _ _) rfl ?_;exact⟨rfl,HP4.out,HK4.out⟩
 |true=>
  have hl2:(l++[40]).length+X.length<=1000000:=by
   have:=HL.out;unfold parX par at this;rw[if_pos rfl,qah,qad,qai] at this;rw[qad,qai];omega
  have hl3:(l++[40]++X).length<=2000000:=by rw[qad];omega
  have hl4:l.length<=2000000:=by rw[qad] at hl2;omega
  have HL2:=qaa (And.intro hl2 (And.intro hl3 hl4));clear hl2 hl3 hl4
  go_upto_region 6 with(first
   |(go_at_call 53;(with_reducible refine(HENC.out _).mono ?_);rintro e w3 ⟨rfl,hw3⟩;obtain rfl:=hw3.symm;clear hw3)
   |(go_at_call 29;(with_reducible refine(z99 B b rv _ _ _ 40 40 rfl _ HP2.out ja HL2.out.2.2 hzw).mono ?_);rintro e w4 ⟨rfl,hp4,hk4⟩;have HX4:=hk4.bl HX.out hxb hxb ja;have HP4:=qaa hp4;have HK4:=qaa (HK2.out.trans hk4);have HB4:=qaa (HB2.out.trans (hk4.below HBb.out HBb.out hzw));have hz4:=hk4.size;clear hp4 hk4))
  clear x0 x1 x2 x3 x4 x5 x6 xl;have x0:=HX4.cell (o:=0) (u:=je jd n.op) rfl;have x1:=HX4.cell (o:=1) (u:=jf ka kn kc) rfl;have x2:=HX4.cell (o:=2) (u:=je jd n.rule) rfl;have x3:=HX4.cell (o:=3) (u:=je jg n.s0) rfl;have x4:=HX4.cell (o:=4) (u:=je jg n.s1) rfl;have x5:=HX4.cell (o:=5) (u:=je jg n.s2) rfl;have x6:=HX4.cell (o:=6) (u:=je jg n.s3) rfl;have xl:=HX4.lt;have hzw4:B<=w4.heap.size:=U
  clear HX4
  go_wp2_with (first
   |(go_at_call 54;(with_reducible refine(HBA.out _ _ _ _ HB4.out HP4.out HKK.out.2.1 HKK.out.2.2 HL2.out.1).mono ?_);rintro e w5 ⟨rfl,hp5,hk5⟩;rw[HKK.out.1] at hp5;have HP5:=qaa hp5;have HK5:=qaa (HK4.out.trans hk5);have hz5:=hk5.size;clear hp5 hk5)
   |(go_at_call 29;(with_reducible refine(z99 B b rv _ _ _ 41 41 rfl _ HP5.out ja HL2.out.2.1 (Nat.le_trans hzw4 hz5)).mono ?_);rintro e w6 ⟨rfl,hp6,hk6⟩;have HP6:=qaa hp6;have HK6:=qaa (HK5.out.trans hk6);clear hp6 hk6))
  go_end0
  refine⟨rfl,?_,HK6.out⟩;have e:l++parX true X=l++[40]++X++[41]:=by unfold parX par;simp
  rw[e];exact HP6.out
end
