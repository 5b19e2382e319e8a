/- The reference: primary at a literal. What a drawn region of two appends and a store leaves as it was. The reference: prefixed, a node with one kid. The referenc -/
import Derived.Deep.Cut
import Derived.Test.YtnmflokhnaiiiaaGreatDoorPkR
import Derived.Test.YtnmflokhnaiiiaaGreatDoorPkM
set_option maxRecDepth 100000
set_option maxHeartbeats 4000000
namespace Go.Proofs.YtnmflokhnaiiiaaGreatDoor
section
open Go.RowKit
theorem zte (c:Nat)(hc:c<256)(w:World):Calls Tryz.prog 104 #[.slice (some ⟨w.heap.size,0,none⟩) 1 1] (w.alloc (.cells #[.int .u8 (c:Int)] 5))
  fun e w'=>e=.returned (.agg #[.int .u64 (setW (fun i=>decide (i=c)) 0),.int .u64 (setW (fun i=>decide (i=c)) 1),.int .u64 (setW (fun i=>decide (i=c)) 2),.int .u64 (setW (fun i=>decide (i=c)) 3)])/\Below w.heap.size w w':=by
 have hS:Bl (w.alloc (.cells #[.int .u8 (c:Int)] 5)) w.heap.size 5 #[.int .u8 (c:Int)]:=Bl.new w _ _;have h:=zur [(c:Int)] (.slice (some ⟨w.heap.size,0,none⟩) 1 1) (w.alloc (.cells #[.int .u8 (c:Int)] 5)) ⟨_,1,rfl,.inr ⟨_,0,rfl,fun i u hu=>by
  match i,hu with
  |0,hu=>
        obtain rfl:_=u:=by simpa using hu
        exact hS.cell rfl⟩⟩ (fun x hx=>by obtain rfl:=List.mem_singleton.1 hx;omega) (by simp)
 rw[zrr] at h;refine h.mono fun e w' h=>⟨h.1,(zaa w _).trans (h.2.mono ?_)⟩
 simp
theorem Bl.other8 {W:World}{b c:Nat}{t:TypeId}{cs:Array Value}(h:Bl W c t cs)(hc:c≠b)(v0 v1 v2 v3 v4 v5 v6 v7:Value) :
  Bl ((((((((W.setCell ⟨b,0,none⟩ v0).setCell ⟨b,1,none⟩ v1).setCell ⟨b,2,none⟩ v2).setCell ⟨b,3,none⟩ v3).setCell ⟨b,4,none⟩ v4).setCell ⟨b,5,none⟩ v5).setCell ⟨b,6,none⟩ v6).setCell ⟨b,7,none⟩ v7) c t cs:=
 (((((((h.other (o:=0) hc v0).other (o:=1) hc v1).other (o:=2) hc v2).other (o:=3) hc v3).other (o:=4) hc v4).other (o:=5) hc v5).other (o:=6) hc v6).other (o:=7) hc v7
theorem own8 {W:World}{base b n sz:Nat}{t:TypeId}{v:Value}{xs:List Value}{cs:Array Value}(h:W.ownsRow base t sz v n xs)(hB:Bl W b 89 cs)(ht:t≠89)(v0 v1 v2 v3 v4 v5 v6 v7:Value) :
  ((((((((W.setCell ⟨b,0,none⟩ v0).setCell ⟨b,1,none⟩ v1).setCell ⟨b,2,none⟩ v2).setCell ⟨b,3,none⟩ v3).setCell ⟨b,4,none⟩ v4).setCell ⟨b,5,none⟩ v5).setCell ⟨b,6,none⟩ v6).setCell ⟨b,7,none⟩ v7).ownsRow base t sz v n xs:=by
 have st:∀ {W:World} {cs:Array Value} (_:W.ownsRow base t sz v n xs) (_:Bl W b 89 cs) (o:Nat) (u:Value),(W.setCell ⟨b,o,none⟩ u).ownsRow base t sz v n xs:=fun h hB o u=>ownsRow_setCell_other h (a:=⟨b,o,none⟩) (zaq h hB ht) u
 exact st (st (st (st (st (st (st (st h hB 0 v0) (hB.put v0) 1 v1) ((hB.put v0).put v1) 2 v2) (((hB.put v0).put v1).put v2) 3 v3) ((((hB.put v0).put v1).put v2).put v3) 4 v4) (((((hB.put v0).put v1).put v2).put v3).put v4) 5 v5) ((((((hB.put v0).put v1).put v2).put v3).put v4).put v5) 6 v6) (((((((hB.put v0).put v1).put v2).put v3).put v4).put v5).put v6) 7 v7
theorem RSt.low8 {R:RC}{rs:List (List Nat × Nat × Int)}{ts:List Tok}{f:MF}{qs:List Value}{x:SV}{W:World}{b:Nat}(h:RSt R rs ts f qs x W){cs:Array Value}(hB:Bl W b 89 cs)(v0 v1 v2 v3 v4 v5 v6 v7:Value) :
  RSt R rs ts f qs x ((((((((W.setCell ⟨b,0,none⟩ v0).setCell ⟨b,1,none⟩ v1).setCell ⟨b,2,none⟩ v2).setCell ⟨b,3,none⟩ v3).setCell ⟨b,4,none⟩ v4).setCell ⟨b,5,none⟩ v5).setCell ⟨b,6,none⟩ v6).setCell ⟨b,7,none⟩ v7):=
 (((((((h.low hB 0 v0).low (hB.put v0) 1 v1).low ((hB.put v0).put v1) 2 v2).low (((hB.put v0).put v1).put v2) 3 v3).low ((((hB.put v0).put v1).put v2).put v3) 4 v4).low (((((hB.put v0).put v1).put v2).put v3).put v4) 5 v5).low ((((((hB.put v0).put v1).put v2).put v3).put v4).put v5) 6 v6).low (((((((hB.put v0).put v1).put v2).put v3).put v4).put v5).put v6) 7 v7
theorem ztf (c:Nat)(hc:c<256)(w:World):Calls Tryz.prog 104 #[.slice (some ⟨w.heap.size,0,none⟩) 1 1] (w.alloc (.cells #[.int .u8 (c:Int)] 5)).drew
  fun e w'=>e=.returned (.agg #[.int .u64 (setW (fun i=>decide (i=c)) 0),.int .u64 (setW (fun i=>decide (i=c)) 1),.int .u64 (setW (fun i=>decide (i=c)) 2),.int .u64 (setW (fun i=>decide (i=c)) 3)])/\Below w.heap.size w w':=
 (zte c hc w.drew).mono fun _ _ h=>⟨h.1,(zcz w).trans h.2⟩
theorem RSt.row {R:RC}{rs:List (List Nat × Nat × Int)}{ts:List Tok}{f:MF}{qs:List Value}{x:SV}{W w':World}{r:Option Nat}(h:RSt R rs ts f qs x W)(hg:W.grownBy w' r)(hr:∀g,r=some g->∃c fz,W.heap[g]?=some (.cells c 3 fz))(hq:∀q,q ∈ qs->∀b,q.ownBlock=some b->r≠some b):RSt R rs ts f qs x w':=by
 obtain⟨h1,h2,h3,h4,h5,h6,h7,h8,h9,h10,h11⟩:=h;refine⟨⟨zbl h1.1 hg hr (by decide),h1.2⟩,h2,h3,h4,h5,h6,h7,h8,⟨h9.1,zbl h9.2.1 hg hr (by decide),fun j m q a b=>(h9.2.2 j m q a b).kept hg ?_⟩,zbl h10 hg hr (by decide),zbl h11 hg hr (by decide)⟩;cases hv:q.ownBlock with
 |none=>exact .inl rfl
 |some b'=>exact .inr (Ne.symm (hq q (List.mem_of_getElem? b) b' hv))
def RLitR (R:RC)(rs:List (List Nat × Nat × Int))(tl:List Tok)(f:MF)(qs:List Value)(s:ByteArray)(tk:Array Value)(w:World)(j:Nat)(kv:Value)(wr:World):Prop:=
 ∃(g:MF) (ks:List Int) (x:SV) (tq:List Value),RSt R rs tl g (qs++tq) x wr/\(∀q,q ∈ tq->q.ownBlock=none)/\(∀b,kv.ownBlock=some b->w.heap.size<=b)/\Bl wr w.heap.size 89 #[.slice x.la R.T.length x.lc,.int .i64 x.i,.slice x.ra x.rn x.rc,.slice x.na x.nn x.nc,.slice x.ca x.cn x.cc,.int .i64 x.bad,.bool x.dp,.bool R.one] /\
  Bl wr (w.heap.size+1) 89 zeroV/\Bl wr (w.heap.size+2) 91 tk/\Below w.heap.size w wr/\wr.ownsRow R.base 3 1 kv ks.length (intsV ks)/\ks.length=j/\g.nodes.length+(s.size-j)<=100000000/\(∀k,ks=[k]->k=lastI g)/\litF f (bts s) []=litF g ((bts s).drop j) ks
section
variable {R:RC} {rs:List (List Nat × Nat × Int)} {f:MF} {qs:List Value} {w:World} (la:Option Addr) (lc:Nat) (i:Int) (ra:Option Addr) (rn rc:Nat) (na:Option Addr) (nn nc:Nat) (ca:Option Addr) (cn cc:Nat) (d:Nat) (a:Nat) (tx:List Nat) (r:List (Nat × Nat)) (tl:List Tok)
theorem zwr (hE:Endy (⟨12,a,tx,r⟩::tl))(hx:∀x,x ∈ tx->x<256)(hm:f.nodes.length+tx.length<=100000000)(hbase:R.base<=w.heap.size)(h:RSt R rs (⟨12,a,tx,r⟩::tl) f qs ⟨la,lc,i,ra,rn,rc,na,nn,nc,ca,cn,cc,-1,false⟩ w) :
  Calls Tryz.prog 80 #[.agg #[.slice la R.T.length lc,.int .i64 i,.slice ra rn rc,.slice na nn nc,.slice ca cn cc,.int .i64 (-1),.bool false,.bool R.one],.int .i64 (d:Int)] w (RRes R (lastI (litN f tx)) (RF R rs tl (litN f tx) qs w.heap.size) w):=by
 have h0:=h;obtain⟨h1,-,-,⟨n,hi,hn⟩,-⟩:=h;obtain⟨hlt,b,hla,⟨t0,t1,t2,t3,t4,t5,t6⟩,hbl⟩:=h1.tok hn;have hla:la=some ⟨b,0,none⟩:=hla;have hi:i=n:=hi;subst hla hi;have hTl:=h1.2;have k1:(n:Int)<(R.T.length:Int):=by omega
 have v1:IntKind.i64.wrap ((n:Int)+1)=(n:Int)+1:=IntWalk.i64_in _ (by omega);have htl:=hE.tail (show(12:Nat)≠0 by decide) (show(12:Nat)≠99 by decide);have hst:RSt R rs tl f qs ⟨some ⟨b,0,none⟩,lc,(n:Int)+1,ra,rn,rc,na,nn,nc,ca,cn,cc,-1,false⟩ w:=by
  obtain⟨h1,h2,h3,-,-,h6⟩:=h0;exact⟨h1,h2,h3,⟨n+1,by show(n:Int)+1=_;omega,by rw[<-List.tail_drop,hn];rfl⟩,htl.ne,h6⟩
 have e0:kI 12=12:=rfl;dsimp only at t0 t1 t2 t3 t4 t5 t6;rw[e0] at t0;obtain⟨s,hs⟩:∃s,strOf tx=s:=⟨_,rfl⟩;have hbt:bts s=tx:=by rw[<-hs,zf7 tx hx]
 rw[hs] at t2;have hsz:s.size=tx.length:=by rw[<-hs,zb0]
 rw[<-hbt];obtain⟨ii,hii,hzi0,hzi1,hzi2⟩:=info_parts zd1;have HST:=Lib.hid hst;have HLT:=Lib.hid hst.lt;have HBASE:=Lib.hid hbase;have hm':f.nodes.length+s.size<=100000000:=by omega
 clear h1 h0 hst htl hn e0 hE hx hs hbt hsz hm hbase;go_enter Tryz.func80,Tryz.ntmps80
 go_upto_region 26 with fail
 obtain⟨W0,hW0⟩:∃W0,((w.alloc (.cells #[.slice (some ⟨b,0,none⟩) R.T.length lc,.int .i64 ((n:Int)+1),.slice ra rn rc,.slice na nn nc,.slice ca cn cc,.int .i64 (-1),.bool false,.bool R.one] 89)).alloc (.cells zeroV 89)).alloc (.cells #[.int .i64 12,.int .i64 (a:Int),.string s,.int .u64 (setW (inRs r) 0),.int .u64 (setW (inRs r) 1),.int .u64 (setW (inRs r) 2),.int .u64 (setW (inRs r) 3)] 91)=W0:=⟨_,rfl⟩;have hb0:Below w.heap.size w W0:=by rw[<-hW0];exact zac (zac (zac (Below.refl _ _) rfl _) rfl _) rfl _
 have hX:Bl W0 w.heap.size 89 #[.slice (some ⟨b,0,none⟩) R.T.length lc,.int .i64 ((n:Int)+1),.slice ra rn rc,.slice na nn nc,.slice ca cn cc,.int .i64 (-1),.bool false,.bool R.one]:=by rw[<-hW0];repeat (first|(refine Bl.new' ?_;simp;done)|refine Bl.past ?_)
 have hO:Bl W0 (w.heap.size+1) 89 zeroV:=by rw[<-hW0];repeat (first|(refine Bl.new' ?_;simp;done)|refine Bl.past ?_)
 have hK:Bl W0 (w.heap.size+2) 91 #[.int .i64 12,.int .i64 (a:Int),.string s,.int .u64 (setW (inRs r) 0),.int .u64 (setW (inRs r) 1),.int .u64 (setW (inRs r) 2),.int .u64 (setW (inRs r) 3)]:=by rw[<-hW0];repeat (first|(refine Bl.new' ?_;simp;done)|refine Bl.past ?_)
 have HR0:Hid (RLitR R rs tl f qs s #[.int .i64 12,.int .i64 (a:Int),.string s,.int .u64 (setW (inRs r) 0),.int .u64 (setW (inRs r) 1),.int .u64 (setW (inRs r) 2),.int .u64 (setW (inRs r) 3)] w 0 (.slice none 0 0) W0):=Lib.hid ⟨f,[],_,[],by rw[List.append_nil];exact HST.out.below hb0,(fun q hq=>nomatch hq),(fun b hb=>by cases hb),hX,hO,hK,hb0,World.ownsRow_nil _ _ _ _,rfl,by omega,(fun k hk=>nomatch hk),rfl⟩;unfold zeroV at hW0;rw[hW0];clear hX hO hK hb0 hW0 t0 t1 t2 t3 t4 t5 t6;go_wp2
 go_loopw [9,10] (fun kv c wr=>∃j:Nat,j<=s.size/\c=.int .i64 j/\RLitR R rs tl f qs s #[.int .i64 12,.int .i64 (a:Int),.string s,.int .u64 (setW (inRs r) 0),.int .u64 (setW (inRs r) 1),.int .u64 (setW (inRs r) 2),.int .u64 (setW (inRs r) 3)] w j kv wr) (fun _ c _=>s.size-(intOf c).toNat)
 case atStart=>exact⟨0,Nat.zero_le _,rfl,HR0.out⟩
 case round=>
  obtain⟨j,hj,rfl,g,ks,⟨la2,lc2,i2,ra2,rn2,rc2,na2,nn2,nc2,ca2,cn2,cc2,bad2,dp2⟩,tq,hS,htq,hkb,hX,hO,hK,hb,hkv,hkl,hgn,hone,hF⟩:=hrel;obtain⟨ka,kc,rfl⟩:=zag hkv;obtain⟨⟨x0,x1,x2,x3,x4,x5,x6,x7⟩,xf,xl⟩:=zad hX;have tk2:wr.cell? ⟨w.heap.size+2,2,none⟩=some (.string s):=hK.cell rfl;have tkl:=hK.lt;dsimp only at x0 x1 x2 x3 x4 x5 x6 x7 hX;by_cases hlt2:j<s.size
  ·have hb8:=s[j].toNat_lt
   have hstep:=zny (g:=g) (ks:=ks) hlt2;obtain⟨c,hc⟩:∃c,s[j].toNat=c:=⟨_,rfl⟩;have hL:=ztf c (by omega) wr;have hA:=fun(W:World) (h2:Below wr.heap.size wr W)=>(show Calls Tryz.prog 81 #[.agg #[.slice la2 R.T.length lc2,.int .i64 i2,.slice ra2 rn2 rc2,.slice na2 nn2 nc2,.slice ca2 cn2 cc2,.int .i64 bad2,.bool dp2,.bool R.one],.agg #[.int .i64 1,.slice none 0 0,.int .i64 0,.int .u64 (setW (fun i=>decide (i=c)) 0),.int .u64 (setW (fun i=>decide (i=c)) 1),.int .u64 (setW (fun i=>decide (i=c)) 2),.int .u64 (setW (fun i=>decide (i=c)) 3)]] W (RRes R (lastI (addN g (clsN (fun i=>decide (i=c))))) (RSt R rs tl (addN g (clsN (fun i=>decide (i=c)))) (qs++tq++[.slice none 0 0])) W) from
    (zf3 (hS.below h2) (clsN (fun i=>decide (i=c))) none 0 (World.ownsRow_nil _ _ _ _) (by omega) (Nat.le_trans HBASE.out (Nat.le_trans hb.size h2.size))).mono fun e w' k=>RRes.of k.1 k.2)
   obtain⟨nd,hnd⟩:∃nd,clsN (fun i=>decide (i=c))=nd:=⟨_,rfl⟩;rw[hnd] at hA;rw[hc,hnd] at hstep;generalize setW (fun i=>decide (i=c)) 0=y0 at hL hA;generalize setW (fun i=>decide (i=c)) 1=y1 at hL hA;generalize setW (fun i=>decide (i=c)) 2=y2 at hL hA;generalize setW (fun i=>decide (i=c)) 3=y3 at hL hA;have HL:=Lib.hid hL;have HA:=Lib.hid hA;have HSTEP:=Lib.hid hstep;have HFF:=Lib.hid hF;have HX:=Lib.hid hX;have HO:=Lib.hid hO;have HK:=Lib.hid hK;have HB:=Lib.hid hb;have HKV:=Lib.hid hkv;have HKL:=Lib.hid hkl;have HTQ:=Lib.hid htq;have HKB:=Lib.hid hkb;have HC:=Lib.hid hc;have hwr:=hb.size;have k2:(j:Int)<(s.size:Int):=by omega
   have hksl:ks.length<=100000000:=by omega
   clear hL hA hstep hF hX hO hK hb hkv hkl hnd hS htq hkb
   go_upto_region 31 with fail
   go_cut [11] (fun kk wx=>kk=.int .i64 (lastI (addN g nd))/\∃x:SV,RSt R rs tl (addN g nd) (qs++tq++[.slice none 0 0]) x wx/\Bl wx w.heap.size 89 #[.slice x.la R.T.length x.lc,.int .i64 x.i,.slice x.ra x.rn x.rc,.slice x.na x.nn x.nc,.slice x.ca x.cn x.cc,.int .i64 x.bad,.bool x.dp,.bool R.one] /\
    Bl wx (w.heap.size+1) 89 zeroV/\Bl wx (w.heap.size+2) 91 #[.int .i64 12,.int .i64 (a:Int),.string s,.int .u64 (setW (inRs r) 0),.int .u64 (setW (inRs r) 1),.int .u64 (setW (inRs r) 2),.int .u64 (setW (inRs r) 3)]/\Below w.heap.size w wx/\wx.ownsRow R.base 3 1 (.slice ka ks.length kc) ks.length (intsV ks)/\R.base<=wx.heap.size)
   case first=>
    go_region_with (first
     |(go_at_call 104;(with_reducible refine HL.out.mono ?_);rintro e w2 ⟨rfl,hb2⟩;have HB2:Hid (Below wr.heap.size wr w2):=Lib.hid hb2;have hx2:=HX.out.below HB2.out;obtain⟨⟨u0,u1,u2,u3,u4,u5,u6,u7⟩,uf,ul⟩:=zad hx2;have tt2:w2.cell? ⟨w.heap.size+2,2,none⟩=some (.string s):=(HK.out.below HB2.out).cell rfl;clear hb2 hx2)
     |(go_at_call 81;(refine(HA.out _ HB2.out).mono ?_);rintro e w3 ⟨la3,lc3,i3,ra3,rn3,rc3,na3,nn3,nc3,ca3,cn3,cc3,bad3,dp3,rfl,hb3,hq3⟩;have HB3:Hid (Below wr.heap.size wr w3):=Lib.hid (HB2.out.trans (hb3.mono HB2.out.size));have hx3:=HX.out.below HB3.out;obtain⟨⟨z0,z1,z2,z3,z4,z5,z6,z7⟩,zf,zl⟩:=zad hx3;have HQ3:=Lib.hid hq3;have HX3:=Lib.hid hx3;clear hb3 hq3 hx3))
    all_goals
     have HRR:Hid (RSt R rs tl (addN g nd) (qs++tq++[.slice none 0 0]) ⟨la3,lc3,i3,ra3,rn3,rc3,na3,nn3,nc3,ca3,cn3,cc3,bad3,dp3⟩ ((((((((w3.setCell ⟨w.heap.size,0,none⟩ (.slice la3 R.T.length lc3)).setCell ⟨w.heap.size,1,none⟩ (.int .i64 i3)).setCell ⟨w.heap.size,2,none⟩ (.slice ra3 rn3 rc3)).setCell ⟨w.heap.size,3,none⟩ (.slice na3 nn3 nc3)).setCell ⟨w.heap.size,4,none⟩ (.slice ca3 cn3 cc3)).setCell ⟨w.heap.size,5,none⟩ (.int .i64 bad3)).setCell ⟨w.heap.size,6,none⟩ (.bool dp3)).setCell ⟨w.heap.size,7,none⟩ (.bool R.one))):=Lib.hid (RSt.low8 HQ3.out HX3.out _ _ _ _ _ _ _ _);clear u0 u1 u2 u3 u4 u5 u6 u7 uf z0 z1 z2 z3 z4 z5 z6 z7 zf x0 x1 x2 x3 x4 x5 x6 x7 xf tk2 tt2;go_wp2
     go_meet
     refine⟨rfl,⟨la3,lc3,i3,ra3,rn3,rc3,na3,nn3,nc3,ca3,cn3,cc3,bad3,dp3⟩,HRR.out,?_,?_,?_,?_,?_,?_⟩
     ·exact zay HX3.out _ _ _ _ _ _ _ _
     ·exact Bl.other8 (HO.out.below HB3.out) (by omega) _ _ _ _ _ _ _ _
     ·exact Bl.other8 (HK.out.below HB3.out) (by omega) _ _ _ _ _ _ _ _
     ·exact zbh (HB.out.trans (HB3.out.mono hwr)) (Nat.le_refl _) _ _ _ _ _ _ _ _
     ·exact own8 (zab HKV.out HB3.out) HX3.out (by decide) _ _ _ _ _ _ _ _
     ·exact Nat.le_trans HBASE.out (zbh (HB.out.trans (HB3.out.mono hwr)) (Nat.le_refl _) _ _ _ _ _ _ _ _).size
   case rest=>
    obtain⟨rfl,x,hS',hX',hO',hK',hb',hkv',hbs'⟩:=hcut;have HS':=Lib.hid hS';have HX':=Lib.hid hX';have HO':=Lib.hid hO';have HK':=Lib.hid hK';have HB':=Lib.hid hb';have HKV':=Lib.hid hkv';have hsz':=hb'.size;have k5:(addN g nd).nodes.length<=2000000000:=by show(g.nodes++[nd]).length<=_;rw[List.length_append,List.length_singleton];omega
    obtain⟨lv,hlv⟩:∃y,lastI (addN g nd)=y:=⟨_,rfl⟩;have HLV:=Lib.hid hlv;rw[hlv];clear hS' hX' hO' hK' hb' hkv' hlv x0 x1 x2 x3 x4 x5 x6 x7 xf tk2
    go_wp2_with (at_builtin;refine wpList_append_own_at _ rfl _ _ 68 rfl R.base 3 ii (.int .i64 0) 1 8 Tryz.underlying68 hii hzi0 hzi1 hzi2 rfl (by decide) _ ks.length _ rfl (zab HKV'.out (zaa _ _)) ⟨wc.heap.size,0,none⟩ 1 1 [.int .i64 lv] rfl rfl (zat _ _ _) (by simp[Value.oneCell']) (by unfold maxLen;omega) (by omega) (by simp;omega) ?_;intro v5 w5 hown' hgrow _ hat;have HO5:=Lib.hid hown';have HG5:Hid ((wc.alloc (.cells #[.int .i64 lv] 3)).grownBy w5 (Value.slice ka ks.length kc).ownBlock):=Lib.hid hgrow;have HAT:Hid (v5.ownBlock=(Value.slice ka ks.length kc).ownBlock∨v5.ownBlock=some (wc.alloc (.cells #[.int .i64 lv] 3)).heap.size):=Lib.hid hat;clear hown' hgrow hat)
    obtain⟨WA,hWA⟩:∃WA,wc.alloc (.cells #[.int .i64 lv] 3)=WA:=⟨_,rfl⟩;have hnew:=zaa wc (.cells #[.int .i64 lv] 3);have hszA:wc.heap.size<=WA.heap.size:=by rw[<-hWA];simp
    rw[hWA] at HG5 HAT hnew;have hkA:WA.ownsRow R.base 3 1 (.slice ka ks.length kc) ks.length (intsV ks):=zab HKV'.out hnew;have kind:∀g,(Value.slice ka ks.length kc).ownBlock=some g->∃c fz,WA.heap[g]?=some (.cells c 3 fz):=fun g hg=>Lib.ownsRow_kind hkA g hg
    have kindB:∀g,(Value.slice ka ks.length kc).ownBlock=some g->∃c t' fz,WA.heap[g]?=some (.cells c t' fz)/\89≠t':=fun g hg=>by
     obtain⟨c,fz,e⟩:=kind g hg;exact⟨c,3,fz,e,by decide⟩
    have kindT:∀g,(Value.slice ka ks.length kc).ownBlock=some g->∃c t' fz,WA.heap[g]?=some (.cells c t' fz)/\91≠t':=fun g hg=>by
     obtain⟨c,fz,e⟩:=kind g hg;exact⟨c,3,fz,e,by decide⟩
    refine⟨⟨j+1,by omega,by rw[Int.natCast_add];rfl,addN g nd,ks++[lv],x,tq++[.slice none 0 0],?_,?_,?_,?_,?_,?_,?_,?_,by rw[List.length_append,List.length_singleton,HKL.out],?_,?_,?_⟩,by show s.size-(j+1)<s.size-j;omega⟩
    ·rw[<-List.append_assoc]
     refine(HS'.out.below hnew).row HG5.out kind fun q hq b hb e=>?_
     rcases List.mem_append.1 hq with hq|hq
     ·rcases List.mem_append.1 hq with hq|hq
      ·exact absurd (HLT.out q hq b hb) (Nat.not_lt.2 (HKB.out b e))
      ·rw[HTQ.out q hq] at hb;cases hb
     ·obtain rfl:=List.mem_singleton.1 hq
      cases hb
    ·intro q hq
     rcases List.mem_append.1 hq with hq|hq
     ·exact HTQ.out q hq
     ·obtain rfl:=List.mem_singleton.1 hq
      rfl
    ·intro b hb
     rcases HAT.out with e|e
     ·exact HKB.out b (e ▸ hb)
     ·rw[e] at hb
      obtain rfl:=Option.some.inj hb;exact Nat.le_trans HB'.out.size hszA
    ·exact(HX'.out.below hnew).grown HG5.out kindB
    ·exact(HO'.out.below hnew).grown HG5.out kindB
    ·exact(HK'.out.below hnew).grown HG5.out kindT
    ·exact Below.row (HB'.out.trans (hnew.mono HB'.out.size)) HG5.out (Nat.le_trans HB'.out.size hszA) HKB.out
    ·have:=HO5.out
     rw[<-HLV.out] at this ⊢;simpa [intsV] using this
    ·show(g.nodes++[nd]).length+_<=_
     rw[List.length_append,List.length_singleton];omega
    ·intro k hk
     cases hks:ks with
     |nil=>
      rw[hks] at hk;injection hk with hk _;rw[<-hk];exact HLV.out.symm
     |cons k0 kr=>
      rw[hks] at hk;injection hk with _ hk;exact absurd hk (by simp)
    ·rw[HFF.out,HSTEP.out,HLV.out]
  ·obtain rfl:j=s.size:=by omega
   have hFin:litN f (bts s)=joinN g 3 ks:=by
    have e:(bts s).drop s.size=[]:=List.drop_eq_nil_of_le (by rw[zaj];exact Nat.le_refl _);rw[e] at hF;unfold litN;rw[hF];rfl
   have HGR:=Lib.hid fun(W:World) (h2:Below wr.heap.size wr W)=>(show Calls Tryz.prog 55 #[.agg #[.slice la2 R.T.length lc2,.int .i64 i2,.slice ra2 rn2 rc2,.slice na2 nn2 nc2,.slice ca2 cn2 cc2,.int .i64 bad2,.bool dp2,.bool R.one],.int .i64 3,.slice ka ks.length kc] W (RRes R (lastI (joinN g 3 ks)) (RF R rs tl (joinN g 3 ks) (qs++tq) w.heap.size) W) from
    zjg ⟨la2,lc2,i2,ra2,rn2,rc2,na2,nn2,nc2,ca2,cn2,cc2,bad2,dp2⟩ 3 ka kc ks (hS.below h2) hkb (zab hkv h2) (by omega) (by omega) (Nat.le_trans HBASE.out (Nat.le_trans hb.size h2.size)) hone)
   obtain⟨gg,hgg⟩:∃gg,joinN g 3 ks=gg:=⟨_,rfl⟩;rw[hgg] at HGR hFin;have HFIN:=Lib.hid hFin;have HO:=Lib.hid hO;have HB:=Lib.hid hb;have HTQ:=Lib.hid htq;have hwr:=hb.size;have hol:=hO.lt;clear hS htq hkb hX hO hK hb hkv hgn hone hF hFin hj hkl hgg
   go_wp2_with (go_at_call 55;(with_reducible refine(HGR.out _ ?_).mono ?_);(· repeat (first|exact Below.refl _ _|refine Below.drew ?_|refine zac ?_ rfl _));rintro e w5 ⟨la5,lc5,i5,ra5,rn5,rc5,na5,nn5,nc5,ca5,cn5,cc5,bad5,dp5,rfl,hb5,hq5⟩;have ho5:=HO.out.below (hb5.mono (by simp));have hbb5:=HB.out.trans (hb5.mono (Nat.le_trans hwr (by simp)));obtain⟨⟨o0,o1,o2,o3,o4,o5,o6,o7⟩,of,ol⟩:=zad ho5;have HO5:=Lib.hid ho5;have HB5:=Lib.hid hbb5;have HQ5:=Lib.hid hq5;clear ho5 hbb5 hb5 hq5 x0 x1 x2 x3 x4 x5 x6 x7 xf)
   clear o0 o1 o2 o3 o4 o5 o6 o7 of;obtain⟨⟨c0,c1,c2,c3,c4,c5,c6,c7⟩,cf,-⟩:=zad (zay HO5.out (.slice la5 R.T.length lc5) (.int .i64 i5) (.slice ra5 rn5 rc5) (.slice na5 nn5 nc5) (.slice ca5 cn5 cc5) (.int .i64 bad5) (.bool dp5) (.bool R.one));refine bodyPost_ret (v:=.tuple #[.agg #[.slice la5 R.T.length lc5,.int .i64 i5,.slice ra5 rn5 rc5,.slice na5 nn5 nc5,.slice ca5 cn5 cc5,.int .i64 bad5,.bool dp5,.bool R.one],.int .i64 (lastI gg)]) (by simp[results,Tryz.results80,go_sem,c0,c1,c2,c3,c4,c5,c6,c7]) rfl ?_;rw[HFIN.out];refine⟨la5,lc5,i5,ra5,rn5,rc5,na5,nn5,nc5,ca5,cn5,cc5,bad5,dp5,rfl,zbh HB5.out (by omega) _ _ _ _ _ _ _ _,?_⟩;exact(RF.low8 HQ5.out HO5.out _ _ _ _ _ _ _ _).trans (fun q hq b hb=>by rw[HTQ.out q hq] at hb;cases hb) (Nat.le_refl _)
end
end
section
open Go.RowKit
def Fr (lo X:Nat)(W0 W:World):Prop:=∀b,b<lo->b≠X->W.heap[b]?=W0.heap[b]?
section
variable {lo X:Nat} {W0 W W':World}
theorem Fr.refl:Fr lo X W0 W0:=fun _ _ _=>rfl
theorem Fr.below (h:Fr lo X W0 W)(hb:Below lo W W'):Fr lo X W0 W':=fun b h1 h2=>(hb.block b h1).trans (h b h1 h2)
theorem Fr.put (h:Fr lo X W0 W)(o:Nat)(u:Value):Fr lo X W0 (W.setCell ⟨X,o,none⟩ u):=fun b h1 h2=>by
 rw[heap_setCell_other _ _ _ _ (by exact h2)];exact h b h1 h2
theorem Fr.bl (h:Fr lo X W0 W)(hn:W0.heap.size=lo){b:Nat}{t:TypeId}{cs:Array Value}(hB:Bl W0 b t cs)(hx:b≠X):Bl W b t cs:=by
 have hl:=hB.lt;unfold Bl at hB ⊢;rw[h b (by omega) hx];exact hB
theorem Fr.own (h:Fr lo X W0 W)(hn:W0.heap.size=lo){base:Nat}{e:TypeId}{size n:Nat}{v:Value}{xs:List Value}(hr:W0.ownsRow base e size v n xs)(hx:v.ownBlock≠some X):W.ownsRow base e size v n xs:=by
 rcases hr.2 with hnil|⟨g,cap,cur,rfl,hg,hW,r⟩
 ·exact⟨hr.1,.inl hnil⟩
 ·have hl:=(Array.getElem?_eq_some_iff.1 hW).1
  exact⟨hr.1,.inr ⟨g,cap,cur,rfl,hg,by rw[h g (by omega) (fun e=>hx (by rw[e];rfl))];exact hW,r⟩⟩
theorem RSt.fr {R:RC}{rs:List (List Nat × Nat × Int)}{ts:List Tok}{f:MF}{qs:List Value}{x:SV}{cs:Array Value}(h:RSt R rs ts f qs x W0)(hB:Bl W0 X 89 cs)(hF:Fr lo X W0 W)(hn:W0.heap.size=lo):RSt R rs ts f qs x W:=by
 obtain⟨h1,h2,h3,h4,h5,h6,h7,h8,h9,h10,h11⟩:=h;have st:∀ {base:Nat} {t:TypeId} {sz n:Nat} {v:Value} {xs:List Value},W0.ownsRow base t sz v n xs->t≠89->W.ownsRow base t sz v n xs:=fun h ht=>hF.own hn h (zaq h hB ht)
 exact⟨⟨st h1.1 (by decide),h1.2⟩,h2,h3,h4,h5,h6,h7,h8,⟨h9.1,st h9.2.1 (by decide),fun j n q e1 e2=>st (h9.2.2 j n q e1 e2) (by decide)⟩,st h10 (by decide),st h11 (by decide)⟩
theorem RBad.fr {R:RC}{rs:List (List Nat × Nat × Int)}{a:List Tok}{dp:Bool}{x:SV}{cs:Array Value}(h:RBad R rs a dp x W0)(hB:Bl W0 X 89 cs)(hF:Fr lo X W0 W)(hn:W0.heap.size=lo):RBad R rs a dp x W:=by
 obtain⟨h1,h2,h3,h4,h5⟩:=h;have st:∀ {base:Nat} {t:TypeId} {sz n:Nat} {v:Value} {xs:List Value},W0.ownsRow base t sz v n xs->t≠89->W.ownsRow base t sz v n xs:=fun h ht=>hF.own hn h (zaq h hB ht)
 exact⟨⟨st h1.1 (by decide),h1.2⟩,h2,h3,h4,h5.1,st h5.2 (by decide)⟩
end
inductive TK where
 |row0
 |eq (v:Value)
 |rowN
 |row1
 |rowS
 |any
def tkT (lo:Nat)(e:TypeId)(sz n:Nat)(cs elem:List Value)(t:TK)(v:Value)(W:World):Prop:=match t with
 |.row0=>∃B,v=.slice (some ⟨B,0,none⟩) 0 0/\W.ownsRow lo e sz v 0 []
 |.eq u=>v=u
 |.rowN=>∃a c,v=.slice a n c/\W.ownsRow lo e sz v n cs
 |.row1=>∃E,v=.slice (some ⟨E,0,none⟩) 1 1/\W.ownsRow lo e sz v 1 elem
 |.rowS=>∃a c,v=.slice a (n+1) c/\W.ownsRow lo e sz v (n+1) (cs++elem)
 |.any=>True
theorem zrs {lo:Nat}{e:TypeId}{sz n:Nat}{cs elem:List Value}(hcs:cs.length=n*sz)(t:TK)(v:Value)(w w':World)(h:RK lo e (n*sz) elem w w')(hT:tkT lo e sz n cs elem t v w):tkT lo e sz n cs elem t v w':=by
 cases t with
 |row0=>
  obtain⟨B,e,hT⟩:=hT;exact⟨B,e,h.row hT (.inl (by omega))⟩
 |eq u=>exact hT
 |rowN=>
  obtain⟨a,c,e,hT⟩:=hT;exact⟨a,c,e,h.row hT (.inl (Nat.le_refl _))⟩
 |row1=>
  obtain⟨E,e,hT⟩:=hT;refine⟨E,e,h.row hT ?_⟩;rcases Nat.eq_zero_or_pos n with h0|h0
  ·exact .inr ⟨[],rfl,by subst h0;simp⟩
  ·exact .inl (Nat.mul_le_mul_right sz h0)
 |rowS=>
  obtain⟨a,c,e,hT⟩:=hT;exact⟨a,c,e,h.row hT (.inr ⟨cs,rfl,hcs⟩)⟩
 |any=>trivial
theorem z0b:(Tryz.prog.info? 104).map (fun i=>(i.zero,i.size,i.bytes))=some (some (.agg #[.string ⟨#[]⟩,.int .i64 0]),2,24):=by kernel_rfl
theorem z4i:(Tryz.prog.info? 95).map (fun i=>(i.zero,i.size,i.bytes))=some (some (.agg #[.string ⟨#[]⟩,.int .i64 0,.int .i64 0]),3,32):=by kernel_rfl
theorem ztg (l:List (List Nat × Nat)):∀u ∈ zcw l,u.oneCell'=true:=by
 intro u hu;obtain⟨r,-,h⟩:=List.mem_flatMap.1 hu;have h:u ∈ [Value.string (strOf r.1),.int .i64 (r.2:Int)]:=h;rcases List.mem_cons.1 h with rfl|h
 ·rfl
 ·obtain rfl:=List.mem_singleton.1 h
  rfl
theorem zws (l:List (List Nat × Nat × Int)):∀u ∈ defsC l,u.oneCell'=true:=by
 intro u hu;obtain⟨r,-,h⟩:=List.mem_flatMap.1 hu;have h:u ∈ [Value.string (strOf r.1),.int .i64 (r.2.1:Int),.int .i64 r.2.2]:=h;rcases List.mem_cons.1 h with rfl|h
 ·rfl
 ·rcases List.mem_cons.1 h with rfl|h
  ·rfl
  ·obtain rfl:=List.mem_singleton.1 h
   rfl
end
section
open Go.RowKit
theorem zfa {R:RC}{rs:List (List Nat × Nat × Int)}{ts:List Tok}{g:MF}{qs:List Value}{x:SV}{w W0:World}(h:RF R rs ts g qs w.heap.size x W0)(nd:PN){k:Int}(hk:nd.kids=[k])(hbase:R.base<=w.heap.size)(hb:Below w.heap.size w W0)(hm:g.nodes.length<=100000000) :
  ∀(W:World) (B:Nat),Below W0.heap.size W0 W->Bl W B 3 #[.int .i64 k]->W0.heap.size<=B->Calls Tryz.prog 81 #[x.v R,ndV nd (.slice (some ⟨B,0,none⟩) 1 1)] W (RRes R (lastI (addN g nd)) (RF R rs ts (addN g nd) qs w.heap.size) W):=by
 intro W B hW hB hlB;obtain⟨tq,h1,ht⟩:=h;have hl:nd.kids.length=1:=by rw[hk];rfl
 have hrow:W.ownsRow R.base 3 1 (.slice (some ⟨B,0,none⟩) nd.kids.length 1) nd.kids.length (intsV nd.kids):=by
  rw[hl,hk];exact⟨rfl,.inr ⟨B,1,_,rfl,by have:=hb.size;omega,hB,Nat.le_refl _,by unfold maxLen;omega,rfl,rfl⟩⟩
 have e:=zf3 (h1.below hW) nd (some ⟨B,0,none⟩) 1 hrow hm (Nat.le_trans hbase (Nat.le_trans hb.size hW.size));rw[hl] at e;refine e.mono fun e w' k=>RRes.of k.1 ?_
 obtain⟨x',k1,k2⟩:=k.2;refine⟨x',k1,tq++[.slice (some ⟨B,0,none⟩) 1 1],by rw[<-List.append_assoc];exact k2,fun q hq b hqb=>?_⟩;rcases List.mem_append.1 hq with hq|hq
 ·exact ht q hq b hqb
 ·obtain rfl:=List.mem_singleton.1 hq
  obtain rfl:B=b:=Option.some.inj hqb;have:=hb.size;omega
end
section
open Go.RowKit
def PreK (t:Tok)(opv:Int):Prop:=(t.kind≠4/\t.kind≠5/\opv=0)∨(t.kind=4/\opv=8)∨(t.kind=5/\opv=9)
theorem PreK.two {t:Tok}{opv:Int}(h:PreK t opv):∃op1:Int,(kI t.kind=4->op1=8)/\(kI t.kind≠4->op1=0)/\(kI t.kind=5->opv=9)/\(kI t.kind≠5->opv=op1)/\(opv=0∨0<opv):=by
 rcases h with⟨h4,h5,rfl⟩|⟨h4,rfl⟩|⟨h5,rfl⟩
 ·exact⟨0,fun e=>absurd e (kI_ne h4),fun _=>rfl,fun e=>absurd e (kI_ne h5),fun _=>rfl,.inl rfl⟩
 ·have e:kI t.kind=4:=by rw[h4];rfl
  exact⟨8,fun _=>rfl,fun h=>absurd e h,fun h=>by omega,fun _=>rfl,.inr (by decide)⟩
 ·have e:kI t.kind=5:=by rw[h5];rfl
  exact⟨0,fun h=>by omega,fun _=>rfl,fun _=>rfl,fun h=>absurd e h,.inr (by decide)⟩
end
end Go.Proofs.YtnmflokhnaiiiaaGreatDoor
