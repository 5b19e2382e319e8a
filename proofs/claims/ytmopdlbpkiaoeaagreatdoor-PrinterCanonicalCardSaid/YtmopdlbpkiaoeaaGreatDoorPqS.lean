/- The reference: primary at a literal. What a drawn region of two appends and a store leaves as it was. The reference: prefixed, a node with one kid. The referenc -/
import Derived.Deep.Cut
import Derived.Test.YtmopdlbpkiaoeaaGreatDoorPqR
import Derived.Test.YtmopdlbpkiaoeaaGreatDoorPqM
set_option maxRecDepth 100000
set_option maxHeartbeats 4000000
open Go.IntKind renaming i64->jd, u64->jg
open Go.Value renaming int->je, slice->jf, string->jh, bool->ji
namespace Go.Proofs.YtmopdlbpkiaoeaaGreatDoor
open Go.Lib renaming hid->qaa
open Go.Proofs.Tryz renaming prog->qab
open Go.World renaming ownsRow_nil->qav
open List renaming append_assoc->qao, length_append->qad, length_singleton->qai, mem_append->qau, mem_cons->qbk, mem_flatMap->qdg, mem_singleton->qam
open Nat renaming le_refl->qac, le_trans->qal
open Option.some renaming inj->qar
variable {cs:Array Value}{rs:List (List Nat × Nat × Int)}{ts:List Tok}{qs:List Value}{f:MF}{b n:Nat}{R:RC}{x:SV}{t:TypeId}{W:World}
section
open Go.RowKit
theorem zte (c:Nat)(hc:c<256)(w:World):Calls qab 161 #[jf (some ⟨w.heap.size,0,none⟩) 1 1] (w.alloc (.cells #[je .u8 (c:Int)] 5))
  fun e w'=>e=.returned (.agg #[je jg (setW (fun i=>decide (i=c)) 0),je jg (setW (fun i=>decide (i=c)) 1),je jg (setW (fun i=>decide (i=c)) 2),je jg (setW (fun i=>decide (i=c)) 3)])/\Below w.heap.size w w':=by
 have hS:Bl (w.alloc (.cells #[je .u8 (c:Int)] 5)) w.heap.size 5 #[je .u8 (c:Int)]:=Bl.new w _ _;have h:=zur [(c:Int)] (jf (some ⟨w.heap.size,0,none⟩) 1 1) (w.alloc (.cells #[je .u8 (c:Int)] 5)) ⟨_,1,rfl,.inr ⟨_,0,rfl,fun i u hu=>by
  match i,hu with
  |0,hu=>
        obtain rfl:_=u:=by simpa using hu
        exact hS.cell rfl⟩⟩ (fun x hx=>by obtain rfl:=qam.1 hx;omega) jc
 rw[zrr] at h;refine h.mono fun e w' h=>⟨h.1,(zaa w _).trans (h.2.mono ?_)⟩
 simp
theorem Bl.other8 {c:Nat}(h:Bl W c t cs)(hc:c≠b)(v0 v1 v2 v3 v4 v5 v6 v7:Value) :
  Bl ((((((((W.setCell ⟨b,0,none⟩ v0).setCell ⟨b,1,none⟩ v1).setCell ⟨b,2,none⟩ v2).setCell ⟨b,3,none⟩ v3).setCell ⟨b,4,none⟩ v4).setCell ⟨b,5,none⟩ v5).setCell ⟨b,6,none⟩ v6).setCell ⟨b,7,none⟩ v7) c t cs:=
 (((((((h.other (o:=0) hc v0).other (o:=1) hc v1).other (o:=2) hc v2).other (o:=3) hc v3).other (o:=4) hc v4).other (o:=5) hc v5).other (o:=6) hc v6).other (o:=7) hc v7
theorem own8 {base sz:Nat}{v:Value}{xs:List Value}(h:W.ownsRow base t sz v n xs)(hB:Bl W b 167 cs)(ht:t≠167)(v0 v1 v2 v3 v4 v5 v6 v7:Value) :
  ((((((((W.setCell ⟨b,0,none⟩ v0).setCell ⟨b,1,none⟩ v1).setCell ⟨b,2,none⟩ v2).setCell ⟨b,3,none⟩ v3).setCell ⟨b,4,none⟩ v4).setCell ⟨b,5,none⟩ v5).setCell ⟨b,6,none⟩ v6).setCell ⟨b,7,none⟩ v7).ownsRow base t sz v n xs:=by
 have st:∀ {W:World} {cs:Array Value} (_:W.ownsRow base t sz v n xs) (_:Bl W b 167 cs) (o:Nat) (u:Value),(W.setCell ⟨b,o,none⟩ u).ownsRow base t sz v n xs:=fun h hB o u=>ownsRow_setCell_other h (a:=⟨b,o,none⟩) (zaq h hB ht) u
 exact st (st (st (st (st (st (st (st h hB 0 v0) (hB.put v0) 1 v1) ((hB.put v0).put v1) 2 v2) (((hB.put v0).put v1).put v2) 3 v3) ((((hB.put v0).put v1).put v2).put v3) 4 v4) (((((hB.put v0).put v1).put v2).put v3).put v4) 5 v5) ((((((hB.put v0).put v1).put v2).put v3).put v4).put v5) 6 v6) (((((((hB.put v0).put v1).put v2).put v3).put v4).put v5).put v6) 7 v7
theorem RSt.low8 (h:RSt R rs ts f qs x W)(hB:Bl W b 167 cs)(v0 v1 v2 v3 v4 v5 v6 v7:Value) :
  RSt R rs ts f qs x ((((((((W.setCell ⟨b,0,none⟩ v0).setCell ⟨b,1,none⟩ v1).setCell ⟨b,2,none⟩ v2).setCell ⟨b,3,none⟩ v3).setCell ⟨b,4,none⟩ v4).setCell ⟨b,5,none⟩ v5).setCell ⟨b,6,none⟩ v6).setCell ⟨b,7,none⟩ v7):=
 (((((((h.low hB 0 v0).low (hB.put v0) 1 v1).low ((hB.put v0).put v1) 2 v2).low (((hB.put v0).put v1).put v2) 3 v3).low ((((hB.put v0).put v1).put v2).put v3) 4 v4).low (((((hB.put v0).put v1).put v2).put v3).put v4) 5 v5).low ((((((hB.put v0).put v1).put v2).put v3).put v4).put v5) 6 v6).low (((((((hB.put v0).put v1).put v2).put v3).put v4).put v5).put v6) 7 v7
theorem ztf (c:Nat)(hc:c<256)(w:World):Calls qab 161 #[jf (some ⟨w.heap.size,0,none⟩) 1 1] (w.alloc (.cells #[je .u8 (c:Int)] 5)).drew
  fun e w'=>e=.returned (.agg #[je jg (setW (fun i=>decide (i=c)) 0),je jg (setW (fun i=>decide (i=c)) 1),je jg (setW (fun i=>decide (i=c)) 2),je jg (setW (fun i=>decide (i=c)) 3)])/\Below w.heap.size w w':=
 (zte c hc w.drew).mono fun _ _ h=>⟨h.1,(zcz w).trans h.2⟩
theorem RSt.row {w':World}{r:Option Nat}(h:RSt R rs ts f qs x W)(hg:W.grownBy w' r)(hr:∀g,r=some g->∃c fz,W.heap[g]?=some (.cells c 3 fz))(hq:∀q,q ∈ qs->∀b,q.ownBlock=some b->r≠some b):RSt R rs ts f qs x w':=by
 obtain⟨h1,h2,h3,h4,h5,h6,h7,h8,h9,h10,h11⟩:=h;refine⟨⟨zbl h1.1 hg hr ja,h1.2⟩,h2,h3,h4,h5,h6,h7,h8,⟨h9.1,zbl h9.2.1 hg hr ja,fun j m q a b=>(h9.2.2 j m q a b).kept hg ?_⟩,zbl h10 hg hr ja,zbl h11 hg hr ja⟩;cases hv:q.ownBlock with
 |none=>exact .inl rfl
 |some b'=>exact .inr (Ne.symm (hq q (List.mem_of_getElem? b) b' hv))
def RLitR (R:RC)(rs:List (List Nat × Nat × Int))(tl:List Tok)(f:MF)(qs:List Value)(s:ByteArray)(tk:Array Value)(w:World)(j:Nat)(kv:Value)(wr:World):Prop:=
 ∃(g:MF) (ks:List Int) (x:SV) (tq:List Value),RSt R rs tl g (qs++tq) x wr/\(∀q,q ∈ tq->q.ownBlock=none)/\(∀b,kv.ownBlock=some b->w.heap.size<=b)/\Bl wr w.heap.size 167 #[jf x.la R.T.length x.lc,je jd x.i,jf x.ra x.rn x.rc,jf x.na x.nn x.nc,jf x.ca x.cn x.cc,je jd x.bad,ji x.dp,ji R.one] /\
  Bl wr (w.heap.size+1) 167 zeroV/\Bl wr (w.heap.size+2) 169 tk/\Below w.heap.size w wr/\wr.ownsRow R.base 3 1 kv ks.length (intsV ks)/\ks.length=j/\g.nodes.length+(s.size-j)<=100000000/\(∀k,ks=[k]->k=lastI g)/\litF f (bts s) []=litF g ((bts s).drop j) ks
section
variable {R:RC} {rs:List (List Nat × Nat × Int)} {f:MF} {qs:List Value} {w:World} (la:Option Addr) (lc:Nat) (i:Int) (ra:Option Addr) (rn rc:Nat) (na:Option Addr) (nn nc:Nat) (ca:Option Addr) (cn cc:Nat) (d:Nat) (a:Nat) (tx:List Nat) (r:List (Nat × Nat)) (tl:List Tok)
theorem zwr (hE:Endy (⟨12,a,tx,r⟩::tl))(hx:∀x,x ∈ tx->x<256)(hm:f.nodes.length+tx.length<=100000000)(hbase:R.base<=w.heap.size)(h:RSt R rs (⟨12,a,tx,r⟩::tl) f qs ⟨la,lc,i,ra,rn,rc,na,nn,nc,ca,cn,cc,-1,false⟩ w) :
  Calls qab 151 #[.agg #[jf la R.T.length lc,je jd i,jf ra rn rc,jf na nn nc,jf ca cn cc,je jd (-1),ji false,ji R.one],je jd (d:Int)] w (RRes R (lastI (litN f tx)) (RF R rs tl (litN f tx) qs w.heap.size) w):=by
 have h0:=h;obtain⟨h1,-,-,⟨n,hi,hn⟩,-⟩:=h;obtain⟨hlt,b,hla,⟨t0,t1,t2,t3,t4,t5,t6⟩,hbl⟩:=h1.tok hn;have hla:la=some ⟨b,0,none⟩:=hla;have hi:i=n:=hi;subst hla hi;have hTl:=h1.2;have k1:(n:Int)<(R.T.length:Int):=U
 have v1:IntKind.i64.wrap ((n:Int)+1)=(n:Int)+1:=IntWalk.i64_in _ U;have htl:=hE.tail (show(12:Nat)≠0 by decide) (show(12:Nat)≠99 by decide);have hst:RSt R rs tl f qs ⟨some ⟨b,0,none⟩,lc,(n:Int)+1,ra,rn,rc,na,nn,nc,ca,cn,cc,-1,false⟩ w:=by
  obtain⟨h1,h2,h3,-,-,h6⟩:=h0;exact⟨h1,h2,h3,⟨n+1,by show(n:Int)+1=_;omega,by rw[<-List.tail_drop,hn];rfl⟩,htl.ne,h6⟩
 have e0:kI 12=12:=rfl;dsimp only at t0 t1 t2 t3 t4 t5 t6;rw[e0] at t0;obtain⟨s,hs⟩:∃s,strOf tx=s:=⟨_,rfl⟩;have hbt:bts s=tx:=by rw[<-hs,zf7 tx hx]
 rw[hs] at t2;have hsz:s.size=tx.length:=by rw[<-hs,zb0]
 rw[<-hbt];obtain⟨ii,hii,hzi0,hzi1,hzi2⟩:=info_parts zd1;have HST:=qaa hst;have HLT:=qaa hst.lt;have HBASE:=qaa hbase;have hm':f.nodes.length+s.size<=100000000:=U
 clear h1 h0 hst htl hn e0 hE hx hs hbt hsz hm hbase;go_enter Tryz.func151,Tryz.ntmps151
 go_upto_region 26 with fail
 obtain⟨W0,hW0⟩:∃W0,((w.alloc (.cells #[jf (some ⟨b,0,none⟩) R.T.length lc,je jd ((n:Int)+1),jf ra rn rc,jf na nn nc,jf ca cn cc,je jd (-1),ji false,ji R.one] 167)).alloc (.cells zeroV 167)).alloc (.cells #[je jd 12,je jd (a:Int),jh s,je jg (setW (inRs r) 0),je jg (setW (inRs r) 1),je jg (setW (inRs r) 2),je jg (setW (inRs r) 3)] 169)=W0:=⟨_,rfl⟩;have hb0:Below w.heap.size w W0:=by rw[<-hW0];exact zac (zac (zac (Below.refl _ _) rfl _) rfl _) rfl _
 have hX:Bl W0 w.heap.size 167 #[jf (some ⟨b,0,none⟩) R.T.length lc,je jd ((n:Int)+1),jf ra rn rc,jf na nn nc,jf ca cn cc,je jd (-1),ji false,ji R.one]:=by rw[<-hW0];repeat (first|(refine Bl.new' ?_;simp;done)|refine Bl.past ?_)
 have hO:Bl W0 (w.heap.size+1) 167 zeroV:=by rw[<-hW0];repeat (first|(refine Bl.new' ?_;simp;done)|refine Bl.past ?_)
 have hK:Bl W0 (w.heap.size+2) 169 #[je jd 12,je jd (a:Int),jh s,je jg (setW (inRs r) 0),je jg (setW (inRs r) 1),je jg (setW (inRs r) 2),je jg (setW (inRs r) 3)]:=by rw[<-hW0];repeat (first|(refine Bl.new' ?_;simp;done)|refine Bl.past ?_)
 have HR0:Hid (RLitR R rs tl f qs s #[je jd 12,je jd (a:Int),jh s,je jg (setW (inRs r) 0),je jg (setW (inRs r) 1),je jg (setW (inRs r) 2),je jg (setW (inRs r) 3)] w 0 (jf none 0 0) W0):=qaa ⟨f,[],_,[],by rw[List.append_nil];exact HST.out.below hb0,(fun q hq=>nomatch hq),(fun b hb=>by cases hb),hX,hO,hK,hb0,qav _ _ _ _,rfl,U,(fun k hk=>nomatch hk),rfl⟩;unfold zeroV at hW0;rw[hW0];clear hX hO hK hb0 hW0 t0 t1 t2 t3 t4 t5 t6;go_wp2
 go_loopw [9,10] (fun kv c wr=>∃j:Nat,j<=s.size/\c=je jd j/\RLitR R rs tl f qs s #[je jd 12,je jd (a:Int),jh s,je jg (setW (inRs r) 0),je jg (setW (inRs r) 1),je jg (setW (inRs r) 2),je jg (setW (inRs r) 3)] w j kv wr) (fun _ c _=>s.size-(intOf c).toNat)
 case atStart=>exact⟨0,Nat.zero_le _,rfl,HR0.out⟩
 case round=>
  obtain⟨j,hj,rfl,g,ks,⟨la2,lc2,i2,ra2,rn2,rc2,na2,nn2,nc2,ca2,cn2,cc2,bad2,dp2⟩,tq,hS,htq,hkb,hX,hO,hK,hb,hkv,hkl,hgn,hone,hF⟩:=hrel;obtain⟨ka,kc,rfl⟩:=zag hkv;obtain⟨⟨x0,x1,x2,x3,x4,x5,x6,x7⟩,xf,xl⟩:=zad hX;have tk2:wr.cell? ⟨w.heap.size+2,2,none⟩=some (jh s):=hK.cell rfl;have tkl:=hK.lt;dsimp only at x0 x1 x2 x3 x4 x5 x6 x7 hX;by_cases hlt2:j<s.size
  ·have hb8:=s[j].toNat_lt
   have hstep:=zny (g:=g) (ks:=ks) hlt2;obtain⟨c,hc⟩:∃c,s[j].toNat=c:=⟨_,rfl⟩;have hL:=ztf c U wr;have hA:=fun(W:World) (h2:Below wr.heap.size wr W)=>(show Calls qab 152 #[.agg #[jf la2 R.T.length lc2,je jd i2,jf ra2 rn2 rc2,jf na2 nn2 nc2,jf ca2 cn2 cc2,je jd bad2,ji dp2,ji R.one],.agg #[je jd 1,jf none 0 0,je jd 0,je jg (setW (fun i=>decide (i=c)) 0),je jg (setW (fun i=>decide (i=c)) 1),je jg (setW (fun i=>decide (i=c)) 2),je jg (setW (fun i=>decide (i=c)) 3)]] W (RRes R (lastI (addN g (clsN (fun i=>decide (i=c))))) (RSt R rs tl (addN g (clsN (fun i=>decide (i=c)))) (qs++tq++[jf none 0 0])) W) from
    (zf3 (hS.below h2) (clsN (fun i=>decide (i=c))) none 0 (qav _ _ _ _) U (qal HBASE.out (qal hb.size h2.size))).mono fun e w' k=>RRes.of k.1 k.2)
   obtain⟨nd,hnd⟩:∃nd,clsN (fun i=>decide (i=c))=nd:=⟨_,rfl⟩;rw[hnd] at hA;rw[hc,hnd] at hstep;generalize setW (fun i=>decide (i=c)) 0=y0 at hL hA;generalize setW (fun i=>decide (i=c)) 1=y1 at hL hA;generalize setW (fun i=>decide (i=c)) 2=y2 at hL hA;generalize setW (fun i=>decide (i=c)) 3=y3 at hL hA;have HL:=qaa hL;have HA:=qaa hA;have HSTEP:=qaa hstep;have HFF:=qaa hF;have HX:=qaa hX;have HO:=qaa hO;have HK:=qaa hK;have HB:=qaa hb;have HKV:=qaa hkv;have HKL:=qaa hkl;have HTQ:=qaa htq;have HKB:=qaa hkb;have HC:=qaa hc;have hwr:=hb.size;have k2:(j:Int)<(s.size:Int):=U
   have hksl:ks.length<=100000000:=U
   clear hL hA hstep hF hX hO hK hb hkv hkl hnd hS htq hkb
   go_upto_region 31 with fail
   go_cut [11] (fun kk wx=>kk=je jd (lastI (addN g nd))/\∃x:SV,RSt R rs tl (addN g nd) (qs++tq++[jf none 0 0]) x wx/\Bl wx w.heap.size 167 #[jf x.la R.T.length x.lc,je jd x.i,jf x.ra x.rn x.rc,jf x.na x.nn x.nc,jf x.ca x.cn x.cc,je jd x.bad,ji x.dp,ji R.one] /\
    Bl wx (w.heap.size+1) 167 zeroV/\Bl wx (w.heap.size+2) 169 #[je jd 12,je jd (a:Int),jh s,je jg (setW (inRs r) 0),je jg (setW (inRs r) 1),je jg (setW (inRs r) 2),je jg (setW (inRs r) 3)]/\Below w.heap.size w wx/\wx.ownsRow R.base 3 1 (jf ka ks.length kc) ks.length (intsV ks)/\R.base<=wx.heap.size)
   case first=>
    go_region_with (first
     |(go_at_call 161;(with_reducible refine HL.out.mono ?_);rintro e w2 ⟨rfl,hb2⟩;have HB2:Hid (Below wr.heap.size wr w2):=qaa hb2;have hx2:=HX.out.below HB2.out;obtain⟨⟨u0,u1,u2,u3,u4,u5,u6,u7⟩,uf,ul⟩:=zad hx2;have tt2:w2.cell? ⟨w.heap.size+2,2,none⟩=some (jh s):=(HK.out.below HB2.out).cell rfl;clear hb2 hx2)
     |(go_at_call 152;(refine(HA.out _ HB2.out).mono ?_);rintro e w3 ⟨la3,lc3,i3,ra3,rn3,rc3,na3,nn3,nc3,ca3,cn3,cc3,bad3,dp3,rfl,hb3,hq3⟩;have HB3:Hid (Below wr.heap.size wr w3):=qaa (HB2.out.trans (hb3.mono HB2.out.size));have hx3:=HX.out.below HB3.out;obtain⟨⟨z0,z1,z2,z3,z4,z5,z6,z7⟩,zf,zl⟩:=zad hx3;have HQ3:=qaa hq3;have HX3:=qaa hx3;clear hb3 hq3 hx3))
    all_goals
     have HRR:Hid (RSt R rs tl (addN g nd) (qs++tq++[jf none 0 0]) ⟨la3,lc3,i3,ra3,rn3,rc3,na3,nn3,nc3,ca3,cn3,cc3,bad3,dp3⟩ ((((((((w3.setCell ⟨w.heap.size,0,none⟩ (jf la3 R.T.length lc3)).setCell ⟨w.heap.size,1,none⟩ (je jd i3)).setCell ⟨w.heap.size,2,none⟩ (jf ra3 rn3 rc3)).setCell ⟨w.heap.size,3,none⟩ (jf na3 nn3 nc3)).setCell ⟨w.heap.size,4,none⟩ (jf ca3 cn3 cc3)).setCell ⟨w.heap.size,5,none⟩ (je jd bad3)).setCell ⟨w.heap.size,6,none⟩ (ji dp3)).setCell ⟨w.heap.size,7,none⟩ (ji R.one))):=qaa (RSt.low8 HQ3.out HX3.out _ _ _ _ _ _ _ _);clear u0 u1 u2 u3 u4 u5 u6 u7 uf z0 z1 z2 z3 z4 z5 z6 z7 zf x0 x1 x2 x3 x4 x5 x6 x7 xf tk2 tt2;go_wp2
     go_meet
     refine⟨rfl,⟨la3,lc3,i3,ra3,rn3,rc3,na3,nn3,nc3,ca3,cn3,cc3,bad3,dp3⟩,HRR.out,?_,?_,?_,?_,?_,?_⟩
     ·exact zay HX3.out _ _ _ _ _ _ _ _
     ·exact Bl.other8 (HO.out.below HB3.out) U _ _ _ _ _ _ _ _
     ·exact Bl.other8 (HK.out.below HB3.out) U _ _ _ _ _ _ _ _
     ·exact zbh (HB.out.trans (HB3.out.mono hwr)) (qac _) _ _ _ _ _ _ _ _
     ·exact own8 (zab HKV.out HB3.out) HX3.out ja _ _ _ _ _ _ _ _
     ·exact qal HBASE.out (zbh (HB.out.trans (HB3.out.mono hwr)) (qac _) _ _ _ _ _ _ _ _).size
   case rest=>
    obtain⟨rfl,x,hS',hX',hO',hK',hb',hkv',hbs'⟩:=hcut;have HS':=qaa hS';have HX':=qaa hX';have HO':=qaa hO';have HK':=qaa hK';have HB':=qaa hb';have HKV':=qaa hkv';have hsz':=hb'.size;have k5:(addN g nd).nodes.length<=2000000000:=by show(g.nodes++[nd]).length<=_;rw[qad,qai];omega
    obtain⟨lv,hlv⟩:∃y,lastI (addN g nd)=y:=⟨_,rfl⟩;have HLV:=qaa hlv;rw[hlv];clear hS' hX' hO' hK' hb' hkv' hlv x0 x1 x2 x3 x4 x5 x6 x7 xf tk2
    go_wp2_with (at_builtin;refine wpList_append_own_at _ rfl _ _ 52 rfl R.base 3 ii (je jd 0) 1 8 Tryz.underlying52 hii hzi0 hzi1 hzi2 rfl ja _ ks.length _ rfl (zab HKV'.out (zaa _ _)) ⟨wc.heap.size,0,none⟩ 1 1 [je jd lv] rfl rfl (zat _ _ _) (by simp[Value.oneCell']) (by unfold maxLen;omega) U (by simp;omega) ?_;intro v5 w5 hown' hgrow _ hat;have HO5:=qaa hown';have HG5:Hid ((wc.alloc (.cells #[je jd lv] 3)).grownBy w5 (Value.slice ka ks.length kc).ownBlock):=qaa hgrow;have HAT:Hid (v5.ownBlock=(Value.slice ka ks.length kc).ownBlock∨v5.ownBlock=some (wc.alloc (.cells #[je jd lv] 3)).heap.size):=qaa hat;clear hown' hgrow hat)
    obtain⟨WA,hWA⟩:∃WA,wc.alloc (.cells #[je jd lv] 3)=WA:=⟨_,rfl⟩;have hnew:=zaa wc (.cells #[je jd lv] 3);have hszA:wc.heap.size<=WA.heap.size:=by rw[<-hWA];simp
    rw[hWA] at HG5 HAT hnew;have hkA:WA.ownsRow R.base 3 1 (jf ka ks.length kc) ks.length (intsV ks):=zab HKV'.out hnew;have kind:∀g,(Value.slice ka ks.length kc).ownBlock=some g->∃c fz,WA.heap[g]?=some (.cells c 3 fz):=fun g hg=>Lib.ownsRow_kind hkA g hg
    have kindB:∀g,(Value.slice ka ks.length kc).ownBlock=some g->∃c t' fz,WA.heap[g]?=some (.cells c t' fz)/\167≠t':=fun g hg=>by
     obtain⟨c,fz,e⟩:=kind g hg;exact⟨c,3,fz,e,ja⟩
    have kindT:∀g,(Value.slice ka ks.length kc).ownBlock=some g->∃c t' fz,WA.heap[g]?=some (.cells c t' fz)/\169≠t':=fun g hg=>by
     obtain⟨c,fz,e⟩:=kind g hg;exact⟨c,3,fz,e,ja⟩
    refine⟨⟨j+1,U,by rw[Int.natCast_add];rfl,addN g nd,ks++[lv],x,tq++[jf none 0 0],?_,?_,?_,?_,?_,?_,?_,?_,by rw[qad,qai,HKL.out],?_,?_,?_⟩,by show s.size-(j+1)<s.size-j;omega⟩
    ·rw[<-qao]
     refine(HS'.out.below hnew).row HG5.out kind fun q hq b hb e=>?_
     rcases qau.1 hq with hq|hq
     ·rcases qau.1 hq with hq|hq
      ·exact absurd (HLT.out q hq b hb) (Nat.not_lt.2 (HKB.out b e))
      ·rw[HTQ.out q hq] at hb;cases hb
     ·obtain rfl:=qam.1 hq
      cases hb
    ·intro q hq
     rcases qau.1 hq with hq|hq
     ·exact HTQ.out q hq
     ·obtain rfl:=qam.1 hq
      rfl
    ·intro b hb
     rcases HAT.out with e|e
     ·exact HKB.out b (e ▸ hb)
     ·rw[e] at hb
      obtain rfl:=qar hb;exact qal HB'.out.size hszA
    ·exact(HX'.out.below hnew).grown HG5.out kindB
    ·exact(HO'.out.below hnew).grown HG5.out kindB
    ·exact(HK'.out.below hnew).grown HG5.out kindT
    ·exact Below.row (HB'.out.trans (hnew.mono HB'.out.size)) HG5.out (qal HB'.out.size hszA) HKB.out
    ·have:=HO5.out
     rw[<-HLV.out] at this ⊢;simpa [intsV] using this
    ·show(g.nodes++[nd]).length+_<=_
     rw[qad,qai];omega
    ·intro k hk
     cases hks:ks with
     |nil=>
      rw[hks] at hk;injection hk with hk _;rw[<-hk];exact HLV.out.symm
     |cons k0 kr=>
      rw[hks] at hk;injection hk with _ hk;exact absurd hk jc
    ·rw[HFF.out,HSTEP.out,HLV.out]
  ·obtain rfl:j=s.size:=U
   have hFin:litN f (bts s)=joinN g 3 ks:=by
    have e:(bts s).drop s.size=[]:=List.drop_eq_nil_of_le (by rw[zaj];exact qac _);rw[e] at hF;unfold litN;rw[hF];rfl
   have HGR:=qaa fun(W:World) (h2:Below wr.heap.size wr W)=>(show Calls qab 134 #[.agg #[jf la2 R.T.length lc2,je jd i2,jf ra2 rn2 rc2,jf na2 nn2 nc2,jf ca2 cn2 cc2,je jd bad2,ji dp2,ji R.one],je jd 3,jf ka ks.length kc] W (RRes R (lastI (joinN g 3 ks)) (RF R rs tl (joinN g 3 ks) (qs++tq) w.heap.size) W) from
    zjg ⟨la2,lc2,i2,ra2,rn2,rc2,na2,nn2,nc2,ca2,cn2,cc2,bad2,dp2⟩ 3 ka kc ks (hS.below h2) hkb (zab hkv h2) U U (qal HBASE.out (qal hb.size h2.size)) hone)
   obtain⟨gg,hgg⟩:∃gg,joinN g 3 ks=gg:=⟨_,rfl⟩;rw[hgg] at HGR hFin;have HFIN:=qaa hFin;have HO:=qaa hO;have HB:=qaa hb;have HTQ:=qaa htq;have hwr:=hb.size;have hol:=hO.lt;clear hS htq hkb hX hO hK hb hkv hgn hone hF hFin hj hkl hgg
   go_wp2_with (go_at_call 134;(with_reducible refine(HGR.out _ ?_).mono ?_);(· repeat (first|exact Below.refl _ _|refine Below.drew ?_|refine zac ?_ rfl _));rintro e w5 ⟨la5,lc5,i5,ra5,rn5,rc5,na5,nn5,nc5,ca5,cn5,cc5,bad5,dp5,rfl,hb5,hq5⟩;have ho5:=HO.out.below (hb5.mono jc);have hbb5:=HB.out.trans (hb5.mono (qal hwr jc));obtain⟨⟨o0,o1,o2,o3,o4,o5,o6,o7⟩,of,ol⟩:=zad ho5;have HO5:=qaa ho5;have HB5:=qaa hbb5;have HQ5:=qaa hq5;clear ho5 hbb5 hb5 hq5 x0 x1 x2 x3 x4 x5 x6 x7 xf)
   clear o0 o1 o2 o3 o4 o5 o6 o7 of;obtain⟨⟨c0,c1,c2,c3,c4,c5,c6,c7⟩,cf,-⟩:=zad (zay HO5.out (jf la5 R.T.length lc5) (je jd i5) (jf ra5 rn5 rc5) (jf na5 nn5 nc5) (jf ca5 cn5 cc5) (je jd bad5) (ji dp5) (ji R.one));refine bodyPost_ret (v:=.tuple #[.agg #[jf la5 R.T.length lc5,je jd i5,jf ra5 rn5 rc5,jf na5 nn5 nc5,jf ca5 cn5 cc5,je jd bad5,ji dp5,ji R.one],je jd (lastI gg)]) (by simp[results,Tryz.results151,go_sem,c0,c1,c2,c3,c4,c5,c6,c7]) rfl ?_;rw[HFIN.out];refine⟨la5,lc5,i5,ra5,rn5,rc5,na5,nn5,nc5,ca5,cn5,cc5,bad5,dp5,rfl,zbh HB5.out U _ _ _ _ _ _ _ _,?_⟩;exact(RF.low8 HQ5.out HO5.out _ _ _ _ _ _ _ _).trans (fun q hq b hb=>by rw[HTQ.out q hq] at hb;cases hb) (qac _)
end
end
section
open Go.RowKit
def Fr (lo X:Nat)(W0 W:World):Prop:=∀b,b<lo->b≠X->W.heap[b]?=W0.heap[b]?
section
variable {lo X:Nat} {W0 W W':World}
theorem Fr.below (h:Fr lo X W0 W)(hb:Below lo W W'):Fr lo X W0 W':=fun b h1 h2=>(hb.block b h1).trans (h b h1 h2)
theorem Fr.put (h:Fr lo X W0 W)(o:Nat)(u:Value):Fr lo X W0 (W.setCell ⟨X,o,none⟩ u):=fun b h1 h2=>by
 rw[heap_setCell_other _ _ _ _ (by exact h2)];exact h b h1 h2
theorem Fr.bl (h:Fr lo X W0 W)(hn:W0.heap.size=lo)(hB:Bl W0 b t cs)(hx:b≠X):Bl W b t cs:=by
 have hl:=hB.lt;unfold Bl at hB ⊢;rw[h b U hx];exact hB
theorem Fr.own (h:Fr lo X W0 W)(hn:W0.heap.size=lo){base:Nat}{e:TypeId}{size:Nat}{v:Value}{xs:List Value}(hr:W0.ownsRow base e size v n xs)(hx:v.ownBlock≠some X):W.ownsRow base e size v n xs:=by
 rcases hr.2 with hnil|⟨g,cap,cur,rfl,hg,hW,r⟩
 ·exact⟨hr.1,.inl hnil⟩
 ·have hl:=(Array.getElem?_eq_some_iff.1 hW).1
  exact⟨hr.1,.inr ⟨g,cap,cur,rfl,hg,by rw[h g U (fun e=>hx (by rw[e];rfl))];exact hW,r⟩⟩
theorem RSt.fr (h:RSt R rs ts f qs x W0)(hB:Bl W0 X 167 cs)(hF:Fr lo X W0 W)(hn:W0.heap.size=lo):RSt R rs ts f qs x W:=by
 obtain⟨h1,h2,h3,h4,h5,h6,h7,h8,h9,h10,h11⟩:=h;have st:∀ {base:Nat} {t:TypeId} {sz n:Nat} {v:Value} {xs:List Value},W0.ownsRow base t sz v n xs->t≠167->W.ownsRow base t sz v n xs:=fun h ht=>hF.own hn h (zaq h hB ht)
 exact⟨⟨st h1.1 ja,h1.2⟩,h2,h3,h4,h5,h6,h7,h8,⟨h9.1,st h9.2.1 ja,fun j n q e1 e2=>st (h9.2.2 j n q e1 e2) ja⟩,st h10 ja,st h11 ja⟩
theorem RBad.fr {a:List Tok}{dp:Bool}(h:RBad R rs a dp x W0)(hB:Bl W0 X 167 cs)(hF:Fr lo X W0 W)(hn:W0.heap.size=lo):RBad R rs a dp x W:=by
 obtain⟨h1,h2,h3,h4,h5⟩:=h;have st:∀ {base:Nat} {t:TypeId} {sz n:Nat} {v:Value} {xs:List Value},W0.ownsRow base t sz v n xs->t≠167->W.ownsRow base t sz v n xs:=fun h ht=>hF.own hn h (zaq h hB ht)
 exact⟨⟨st h1.1 ja,h1.2⟩,h2,h3,h4,h5.1,st h5.2 ja⟩
end
inductive TK where
 |row0
 |eq (v:Value)
 |rowN
 |row1
 |rowS
 |any
def tkT (lo:Nat)(e:TypeId)(sz n:Nat)(cs elem:List Value)(t:TK)(v:Value)(W:World):Prop:=match t with
 |.row0=>∃B,v=jf (some ⟨B,0,none⟩) 0 0/\W.ownsRow lo e sz v 0 []
 |.eq u=>v=u
 |.rowN=>∃a c,v=jf a n c/\W.ownsRow lo e sz v n cs
 |.row1=>∃E,v=jf (some ⟨E,0,none⟩) 1 1/\W.ownsRow lo e sz v 1 elem
 |.rowS=>∃a c,v=jf a (n+1) c/\W.ownsRow lo e sz v (n+1) (cs++elem)
 |.any=>True
theorem zrs {lo:Nat}{e:TypeId}{sz:Nat}{cs elem:List Value}(hcs:cs.length=n*sz)(t:TK)(v:Value)(w w':World)(h:RK lo e (n*sz) elem w w')(hT:tkT lo e sz n cs elem t v w):tkT lo e sz n cs elem t v w':=by
 cases t with
 |row0=>
  obtain⟨B,e,hT⟩:=hT;exact⟨B,e,h.row hT (.inl U)⟩
 |eq u=>exact hT
 |rowN=>
  obtain⟨a,c,e,hT⟩:=hT;exact⟨a,c,e,h.row hT (.inl (qac _))⟩
 |row1=>
  obtain⟨E,e,hT⟩:=hT;refine⟨E,e,h.row hT ?_⟩;rcases Nat.eq_zero_or_pos n with h0|h0
  ·exact .inr ⟨[],rfl,by subst h0;simp⟩
  ·exact .inl (Nat.mul_le_mul_right sz h0)
 |rowS=>
  obtain⟨a,c,e,hT⟩:=hT;exact⟨a,c,e,h.row hT (.inr ⟨cs,rfl,hcs⟩)⟩
 |any=>trivial
theorem z0b:(qab.info? 176).map (fun i=>(i.zero,i.size,i.bytes))=some (some (.agg #[jh ⟨#[]⟩,je jd 0]),2,24):=jb
theorem z4i:(qab.info? 173).map (fun i=>(i.zero,i.size,i.bytes))=some (some (.agg #[jh ⟨#[]⟩,je jd 0,je jd 0]),3,32):=jb
theorem ztg (l:List (List Nat × Nat)):∀u ∈ zcw l,u.oneCell'=true:=by
 intro u hu;obtain⟨r,-,h⟩:=qdg.1 hu;have h:u ∈ [Value.string (strOf r.1),je jd (r.2:Int)]:=h;rcases qbk.1 h with rfl|h
 ·rfl
 ·obtain rfl:=qam.1 h
  rfl
theorem zws (l:List (List Nat × Nat × Int)):∀u ∈ defsC l,u.oneCell'=true:=by
 intro u hu;obtain⟨r,-,h⟩:=qdg.1 hu;have h:u ∈ [Value.string (strOf r.1),je jd (r.2.1:Int),je jd r.2.2]:=h;rcases qbk.1 h with rfl|h
 ·rfl
 ·rcases qbk.1 h with rfl|h
  ·rfl
  ·obtain rfl:=qam.1 h
   rfl
end
section
open Go.RowKit
theorem zfa {g:MF}{w W0:World}(h:RF R rs ts g qs w.heap.size x W0)(nd:PN){k:Int}(hk:nd.kids=[k])(hbase:R.base<=w.heap.size)(hb:Below w.heap.size w W0)(hm:g.nodes.length<=100000000) :
  ∀(W:World) (B:Nat),Below W0.heap.size W0 W->Bl W B 3 #[je jd k]->W0.heap.size<=B->Calls qab 152 #[x.v R,ndV nd (jf (some ⟨B,0,none⟩) 1 1)] W (RRes R (lastI (addN g nd)) (RF R rs ts (addN g nd) qs w.heap.size) W):=by
 intro W B hW hB hlB;obtain⟨tq,h1,ht⟩:=h;have hl:nd.kids.length=1:=by rw[hk];rfl
 have hrow:W.ownsRow R.base 3 1 (jf (some ⟨B,0,none⟩) nd.kids.length 1) nd.kids.length (intsV nd.kids):=by
  rw[hl,hk];exact⟨rfl,.inr ⟨B,1,_,rfl,by have:=hb.size;omega,hB,qac _,by unfold maxLen;omega,rfl,rfl⟩⟩
 have e:=zf3 (h1.below hW) nd (some ⟨B,0,none⟩) 1 hrow hm (qal hbase (qal hb.size hW.size));rw[hl] at e;refine e.mono fun e w' k=>RRes.of k.1 ?_
 obtain⟨x',k1,k2⟩:=k.2;refine⟨x',k1,tq++[jf (some ⟨B,0,none⟩) 1 1],by rw[<-qao];exact k2,fun q hq b hqb=>?_⟩;rcases qau.1 hq with hq|hq
 ·exact ht q hq b hqb
 ·obtain rfl:=qam.1 hq
  obtain rfl:B=b:=qar hqb;have:=hb.size;omega
end
section
open Go.RowKit
def PreK (t:Tok)(opv:Int):Prop:=(t.kind≠4/\t.kind≠5/\opv=0)∨(t.kind=4/\opv=8)∨(t.kind=5/\opv=9)
theorem PreK.two {t:Tok}{opv:Int}(h:PreK t opv):∃op1:Int,(kI t.kind=4->op1=8)/\(kI t.kind≠4->op1=0)/\(kI t.kind=5->opv=9)/\(kI t.kind≠5->opv=op1)/\(opv=0∨0<opv):=by
 rcases h with⟨h4,h5,rfl⟩|⟨h4,rfl⟩|⟨h5,rfl⟩
 ·exact⟨0,fun e=>absurd e (kI_ne h4),fun _=>rfl,fun e=>absurd e (kI_ne h5),fun _=>rfl,.inl rfl⟩
 ·have e:kI t.kind=4:=by rw[h4];rfl
  exact⟨8,fun _=>rfl,fun h=>absurd e h,fun h=>U,fun _=>rfl,.inr ja⟩
 ·have e:kI t.kind=5:=by rw[h5];rfl
  exact⟨0,fun h=>U,fun _=>rfl,fun _=>rfl,fun h=>absurd e h,.inr ja⟩
end
