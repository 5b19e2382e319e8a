/- What the laws of the names need in common. The fixed examples of the names hold. -/
import Derived.Test.YtnmflokhnaiiiaaGreatDoorPkRG
import Derived.Test.YtnmflokhnaiiiaaGreatDoorPkRC
import Derived.Test.YtnmflokhnaiiiaaGreatDoorPkRD
set_option maxRecDepth 100000
set_option maxHeartbeats 8000000
namespace Go.Proofs.YtnmflokhnaiiiaaGreatDoor
section
open Go.RowKit
def zbx:Prop:=∀w,LexLaid w->Calls Tryz.prog 10 #[] w fun e w'=>e=.returned (.bool true)/\Below w.heap.size w w'
theorem zhp {w W:World}(h:w.cell? ⟨0,0,none⟩=some (rt 28))(hb:Below w.heap.size w W):W.cell? ⟨0,0,none⟩=some (rt 28):=za0 hb h
theorem zqh {b:Nat}{r:ByteArray}{c p:Int}{w:World}(h:(Err.within b r (.fault c p)).In w)(hg:w.cell? ⟨0,0,none⟩=some (rt 28)):Calls Tryz.prog 15 #[.iface 109 (.pointer (some ⟨b,0,none⟩))] w fun e w'=>e=.returned (.tuple #[.int .i64 p,.bool true])/\Below w.heap.size w w':=z30 (.within b r (.fault c p)) c p w rfl h hg
theorem zse {rs:List (List Nat × Nat × Int)}{f:MF}(h:FileOk rs f):(zam rs).length<=maxLen:=by have:=h.rl;unfold zam maxLen;rw[List.length_map];omega
theorem zsf {rs:List (List Nat × Nat × Int)}{f:MF}(h:FileOk rs f):(zan (nmR rs) (nmC f) f.nodes).length<=maxLen:=by have:=h.nl;rw[zc1];unfold maxLen;omega
end
section
open Go.RowKit
def bF:ByteArray:=⟨#[65,32,60,45,32,66]⟩
def bG:ByteArray:=⟨#[65,32,60,45,32,66,32,39,120,39,10,66,32,60,45,32,65,63]⟩
theorem z3b:bts bF=x9F:=rfl
theorem z8s:bts bG=x9G:=rfl
theorem okF:FileOk rsF mfF:=zb9 (s:=bF) (by decide) (by rw[z3b];exact zsd)
def FI (W:World)(va:Option Addr)(vc:Nat)(na:Option Addr)(nc:Nat)(ca:Option Addr)(cc:Nat):Prop:=FileIn W (.slice va 1 vc) (.slice na 1 nc) (.slice ca 1 cc) rsF mfF
theorem FI.below {W W':World}{va:Option Addr}{vc:Nat}{na:Option Addr}{nc:Nat}{ca:Option Addr}{cc:Nat}(h:FI W va vc na nc ca cc)(hb:Below W.heap.size W W'):FI W' va vc na nc ca cc:=FileIn.below h hb
theorem zyb (W:World)(hl:SignsAt W):Calls Tryz.prog 8 #[.string ⟨#[65,32,60,45,32,66]⟩] W fun e w'=>∃va vc na nc ca cc,e=.returned (.tuple #[.agg #[.slice va 1 vc,.slice na 1 nc,.slice ca 1 cc],.nilIface])/\FI w' va vc na nc ca cc/\Below W.heap.size W w':=
 (zax bF W hl (by decide)).mono fun e w' h=>by
  rw[zbj,z3b,zsd] at h;obtain⟨va,vc,na,nc,ca,cc,he,hf,hb⟩:=zb6 h;exact⟨va,vc,na,nc,ca,cc,he,hf.file,hb⟩
theorem z8t {W:World}{va:Option Addr}{vc:Nat}{na:Option Addr}{nc:Nat}{ca:Option Addr}{cc:Nat}(h:FI W va vc na nc ca cc):Calls Tryz.prog 11 #[.agg #[.slice va 1 vc,.slice na 1 nc,.slice ca 1 cc]] W fun e w'=>∃b,e=.returned (.tuple #[.agg #[.slice none 0 0,.slice none 0 0],.iface 109 (.pointer (some ⟨b,0,none⟩))])/\(Err.within b ⟨#[66]⟩ (.fault 3 5)).In w'/\Below W.heap.size W w':=
 zr8 _ _ _ rsF mfF W h okF _ z5o z5p
theorem z1h (W:World)(hl:LexLaid W):Calls Tryz.prog 24 #[.string ⟨#[65,32,60,45,32,66,32,39,120,39,10,66,32,60,45,32,65,63]⟩] W fun e w'=>∃ra rc na nn nc,e=.returned (.tuple #[.agg #[.slice ra 2 rc,.slice na nn nc],.nilIface])/\Below W.heap.size W w':=
 (zxz bG W hl (by decide) (by rw[z8s];exact z1a) z5q z5r z5s).mono fun e w' h=>by
  obtain⟨rv,nv,qs,rfl,h1,h2,h3⟩:=h;obtain⟨ra,rc,rfl⟩:=zag h1;obtain⟨na,nc,rfl⟩:=zag h2.2.1;exact⟨ra,rc,na,_,nc,rfl,h3⟩
theorem exa_A {W:World}{va:Option Addr}{vc:Nat}{na:Option Addr}{nc:Nat}{ca:Option Addr}{cc:Nat}(h:FI W va vc na nc ca cc):Calls Tryz.prog 17 #[.agg #[.slice va 1 vc,.slice na 1 nc,.slice ca 1 cc],.string ⟨#[65]⟩] W fun e w'=>e=.returned (.int .i64 0)/\Below W.heap.size W w':=by
 have h1:=zgz _ _ _ rsF mfF ⟨#[65]⟩ W h okF (by decide);rw[x9F_A] at h1;exact h1
theorem exa_B {W:World}{va:Option Addr}{vc:Nat}{na:Option Addr}{nc:Nat}{ca:Option Addr}{cc:Nat}(h:FI W va vc na nc ca cc):Calls Tryz.prog 17 #[.agg #[.slice va 1 vc,.slice na 1 nc,.slice ca 1 cc],.string ⟨#[66]⟩] W fun e w'=>e=.returned (.int .i64 (-1))/\Below W.heap.size W w':=by
 have h1:=zgz _ _ _ rsF mfF ⟨#[66]⟩ W h okF (by decide);rw[x9F_B] at h1;exact h1
theorem z5t {W:World}{va:Option Addr}{vc:Nat}{na:Option Addr}{nc:Nat}{ca:Option Addr}{cc:Nat}(h:FI W va vc na nc ca cc):Calls Tryz.prog 20 #[.agg #[.slice va 1 vc,.slice na 1 nc,.slice ca 1 cc]] W fun e w'=>∃v,e=.returned v/\StrsAt w' v [⟨#[66]⟩]/\Below W.heap.size W w':=
 (zio _ _ _ rsF mfF W h okF).mono fun e w' h=>by
  rw[z1b] at h;obtain⟨v,he,ho,hb⟩:=h;exact⟨v,he,StrsAt.of_own ho,hb⟩
theorem z5u {W:World}{va:Option Addr}{vc:Nat}{na:Option Addr}{nc:Nat}{ca:Option Addr}{cc:Nat}(h:FI W va vc na nc ca cc):Calls Tryz.prog 22 #[.agg #[.slice va 1 vc,.slice na 1 nc,.slice ca 1 cc]] W fun e w'=>∃a c,e=.returned (.slice a 0 c)/\Below W.heap.size W w':=
 (zr9 _ _ _ rsF mfF [] rfl W h okF).mono fun e w' h=>by
  obtain⟨v,rfl,ho,hb⟩:=h;obtain⟨a,c,rfl⟩:=zag ho;exact⟨a,c,rfl,hb⟩
theorem zt2 {b:Nat}{p:Int}{w:World}(h:(Err.within b ⟨#[66]⟩ (.fault 3 p)).In w):Calls Tryz.prog 177 #[.pointer (some ⟨b,0,none⟩)] w fun ev w'=>ev=.returned (.string ⟨#[114,117,108,101,32,66,58,32,101,114,114,111,114,32,51]⟩)/\Below w.heap.size w w':=zoj b p w h.1 h.2.1
theorem z8u (W:World):StrsAt (W.alloc (.cells #[.string ⟨#[66]⟩] 9)) (.slice (some ⟨W.heap.size,0,none⟩) 1 1) [⟨#[66]⟩]:=⟨_,1,rfl,Nat.le_refl _,.inr ⟨_,0,rfl,fun j u hu=>by
 have h:=Bl.new W 9 #[.string ⟨#[66]⟩];cases j with
 |zero=>
  obtain rfl:=Option.some.inj hu;exact h.cell (o:=0) rfl
 |succ j=>cases hu⟩⟩
theorem zef:zbx:=by
 intro w hl;have HP:=Lib.hid fun(W:World) (hb:Below w.heap.size w W)=>zyb W (hl.2.kept hb (Nat.le_refl _))
 have HGR:=Lib.hid fun(W:World) (hb:Below w.heap.size w W)=>z1h W (hl.kept hb (Nat.le_refl _))
 have HET:=Lib.hid fun(W:World) (hb:Below w.heap.size w W)=>zhp hl.1 hb
 have HB0:=Lib.hid (Below.refl w.heap.size w);have me:=zx0;have ee:=zx2;have ne:=zx1;clear hl;go_enter Tryz.func10,Tryz.ntmps10
 go_upto_region 4 with(go_at_call 8;(with_reducible refine(HP.out _ HB0.out).mono ?_);rintro e w1 ⟨va,vc,na,nc,ca,cc,rfl,hF,hb⟩;have hn:=zaa w1 (.cells #[.slice va 1 vc,.slice na 1 nc,.slice ca 1 cc] 26);have hbn:=hb.trans (hn.mono hb.size);have HI1:=Lib.hid (hF.below hn);have HF1:=Lib.hid (Bl.new w1 26 #[.slice va 1 vc,.slice na 1 nc,.slice ca 1 cc]);have HB1:=Lib.hid (HB0.out.trans (hbn.mono HB0.out.size));clear hF hb hn hbn)
 obtain⟨W1,hW1⟩:∃W1,w1.alloc (.cells #[.slice va 1 vc,.slice na 1 nc,.slice ca 1 cc] 26)=W1:=⟨_,rfl⟩;obtain⟨F,hF⟩:∃F,w1.heap.size=F:=⟨_,rfl⟩;rw[hW1] at HI1 HF1 HB1;rw[hF] at HF1;rw[hW1,hF];clear hW1 hF;have c0:=HF1.out.cell (o:=0) (u:=.slice va 1 vc) rfl;have c1:=HF1.out.cell (o:=1) (u:=.slice na 1 nc) rfl;have c2:=HF1.out.cell (o:=2) (u:=.slice ca 1 cc) rfl;have cl:=HF1.out.lt
 go_upto_region 6 with(first
  |(go_at_call 11;(with_reducible refine(z8t HI1.out).mono ?_);rintro e w2 ⟨b,rfl,hE,hb⟩;have hn:=zaa w2 (.cells #[.slice none 0 0,.slice none 0 0] 40);have hbn:=hb.trans (hn.mono hb.size);have HX2:=Lib.hid (hE.kept hn (Nat.le_refl _));have HI2:=Lib.hid (HI1.out.below hbn);have HF2:=Lib.hid (HF1.out.below hbn);have HB2:=Lib.hid (HB1.out.trans (hbn.mono HB1.out.size));clear hE hb hn hbn c0 c1 c2 cl)
  |(go_at_call 24;(with_reducible refine(HGR.out _ HB2.out).mono ?_);rintro e w3 ⟨ra,rc,ma,mn,mc,rfl,hb⟩;have hn:=zaa w3 (.cells #[.slice ra 2 rc,.slice ma mn mc] 40);have hbn:=hb.trans (hn.mono hb.size);have HX3:=Lib.hid (HX2.out.kept hbn (Nat.le_refl _));have HI3:=Lib.hid (HI2.out.below hbn);have HF3:=Lib.hid (HF2.out.below hbn);have HG3:=Lib.hid (Bl.new w3 40 #[.slice ra 2 rc,.slice ma mn mc]);have HB3:=Lib.hid (HB2.out.trans (hbn.mono HB2.out.size));clear hb hn hbn))
 obtain⟨W3,hW3⟩:∃W3,w3.alloc (.cells #[.slice ra 2 rc,.slice ma mn mc] 40)=W3:=⟨_,rfl⟩;obtain⟨G,hG⟩:∃G,w3.heap.size=G:=⟨_,rfl⟩;rw[hW3] at HX3 HI3 HF3 HG3 HB3;rw[hG] at HG3;rw[hW3,hG];clear hW3 hG HX2 HI2 HF2 HB2 HI1 HF1 HB1
 go_wp2_with (first
  |(go_at_call 15;(with_reducible refine(zqh HX3.out (HET.out _ HB3.out)).mono ?_);rintro e w4 ⟨rfl,hb⟩;have HX4:=Lib.hid (HX3.out.kept hb (Nat.le_refl _));have HI4:=Lib.hid (HI3.out.below hb);have HF4:=Lib.hid (HF3.out.below hb);have HG4:=Lib.hid (HG3.out.below hb);have HB4:=Lib.hid (HB3.out.trans (hb.mono HB3.out.size));clear hb)
  |(go_at_call 177;(with_reducible refine(zt2 HX4.out).mono ?_);rintro e w5 ⟨rfl,hb⟩;have HI5:=Lib.hid (HI4.out.below hb);have HF5:=Lib.hid (HF4.out.below hb);have HG5:=Lib.hid (HG4.out.below hb);have HB5:=Lib.hid (HB4.out.trans (hb.mono HB4.out.size));clear hb;have c0:=HF5.out.cell (o:=0) (u:=.slice va 1 vc) rfl;have c1:=HF5.out.cell (o:=1) (u:=.slice na 1 nc) rfl;have c2:=HF5.out.cell (o:=2) (u:=.slice ca 1 cc) rfl;have cl:=HF5.out.lt)
  |(go_at_call 17;(with_reducible refine(exa_A HI5.out).mono ?_);rintro e w6 ⟨rfl,hb⟩;have HI6:=Lib.hid (HI5.out.below hb);have HF6:=Lib.hid (HF5.out.below hb);have HG6:=Lib.hid (HG5.out.below hb);have HB6:=Lib.hid (HB5.out.trans (hb.mono HB5.out.size));clear hb;clear c0 c1 c2 cl;have c0:=HF6.out.cell (o:=0) (u:=.slice va 1 vc) rfl;have c1:=HF6.out.cell (o:=1) (u:=.slice na 1 nc) rfl;have c2:=HF6.out.cell (o:=2) (u:=.slice ca 1 cc) rfl;have cl:=HF6.out.lt)
  |(go_at_call 17;(with_reducible refine(exa_B HI6.out).mono ?_);rintro e w7 ⟨rfl,hb⟩;have HI7:=Lib.hid (HI6.out.below hb);have HF7:=Lib.hid (HF6.out.below hb);have HG7:=Lib.hid (HG6.out.below hb);have HB7:=Lib.hid (HB6.out.trans (hb.mono HB6.out.size));clear hb;clear c0 c1 c2 cl;have c0:=HF7.out.cell (o:=0) (u:=.slice va 1 vc) rfl;have c1:=HF7.out.cell (o:=1) (u:=.slice na 1 nc) rfl;have c2:=HF7.out.cell (o:=2) (u:=.slice ca 1 cc) rfl;have cl:=HF7.out.lt)
  |(go_at_call 20;(with_reducible refine(z5t HI7.out).mono ?_);rintro e w8 ⟨v8,rfl,hS,hb⟩;have hn:=zaa w8 (.cells #[.string ⟨#[66]⟩] 9);have HS8:=Lib.hid (hS.below hn);have hbn:=hb.trans (hn.mono hb.size);have HI8:=Lib.hid (HI7.out.below hbn);have HF8:=Lib.hid (HF7.out.below hbn);have HG8:=Lib.hid (HG7.out.below hbn);have HB8:=Lib.hid (HB7.out.trans (hbn.mono HB7.out.size));clear hS hb hn hbn;clear c0 c1 c2 cl)
  |(go_at_call 19;(with_reducible refine(zmi _ _ [⟨#[66]⟩] _ HS8.out (z8u _) (by decide)).mono ?_);rintro e w9 ⟨rfl,hb⟩;have HI9:=Lib.hid (HI8.out.below hb);have HF9:=Lib.hid (HF8.out.below hb);have HG9:=Lib.hid (HG8.out.below hb);have HB9:=Lib.hid (HB8.out.trans (hb.mono HB8.out.size));clear hb;have c0:=HF9.out.cell (o:=0) (u:=.slice va 1 vc) rfl;have c1:=HF9.out.cell (o:=1) (u:=.slice na 1 nc) rfl;have c2:=HF9.out.cell (o:=2) (u:=.slice ca 1 cc) rfl;have cl:=HF9.out.lt;have y0:=HG9.out.cell (o:=0) (u:=.slice ra 2 rc) rfl;have yl:=HG9.out.lt)
  |(go_at_call 22;(with_reducible refine(z5u HI9.out).mono ?_);rintro e wa ⟨aa,ac,rfl,hb⟩;have HBa:=Lib.hid (HB9.out.trans (hb.mono HB9.out.size));clear hb))
 go_ret;exact⟨rfl,HBa.out⟩
end
end Go.Proofs.YtnmflokhnaiiiaaGreatDoor
