/- The reference: finish. The reference: Parse, its loop. -/
import Derived.Test.YtmopdlbpkiaoeaaGreatDoorPqT
import Derived.Test.YtmopdlbpkiaoeaaGreatDoorPqO
set_option maxRecDepth 100000
set_option maxHeartbeats 4000000
open Go.IntKind renaming i64->jd
open Go.Value renaming int->je, slice->jf, bool->ji, tuple->jk
namespace Go.Proofs.YtmopdlbpkiaoeaaGreatDoor
open Go.Lib renaming hid->qaa
open Go.RowKit.Below renaming drew->qak, refl->qaf
open Nat renaming le_of_lt->qdb, le_refl->qac, le_succ->qbh
variable {cs:Array Value}{rs:List (List Nat × Nat × Int)}{qs:List Value}{R:RC}{z:SV}{w:World}
section
open Go.RowKit
def erC (dp:Bool):Int:=if dp then 5 else 1
def FinIs (base:Nat)(O:FO)(w:World)(e:Ending)(w':World):Prop:=match O with
 |.ok rs f=>∃ra rc na nc ca cc qs,e=.returned (jk #[.agg #[jf ra rs.length rc,jf na f.nodes.length nc,jf ca f.calls.length cc],je jd 0,je jd 0])/\NRow base (jf na f.nodes.length nc) f.nodes qs w'/\w'.ownsRow base 176 2 (jf ca f.calls.length cc) f.calls.length (zcw f.calls)/\w'.ownsRow base 173 3 (jf ra rs.length rc) rs.length (defsC rs)/\Below w.heap.size w w'
 |.bad a dp=>e=.returned (jk #[.agg #[jf none 0 0,jf none 0 0,jf none 0 0],je jd (erC dp),je jd (pos a:Int)])/\Below w.heap.size w w'
def zeroF:Array Value:=#[jf none 0 0,jf none 0 0,jf none 0 0]
theorem zhj {a:List Tok}{dpp:Bool}(la:Option Addr)(lc:Nat)(i:Int)(ra:Option Addr)(rn rc:Nat)(na:Option Addr)(nn nc:Nat)(ca:Option Addr)(cn cc:Nat)(bad:Int)(dp:Bool)(h:RBad R rs a dpp ⟨la,lc,i,ra,rn,rc,na,nn,nc,ca,cn,cc,bad,dp⟩ w) :
  Calls Tryz.prog 108 #[.agg #[jf la R.T.length lc,je jd i,jf ra rn rc,jf na nn nc,jf ca cn cc,je jd bad,ji dp,ji R.one]] w (FinIs R.base (.bad a dpp) w):=by
 obtain⟨h1,h2,⟨n,hn,hd⟩,hne,-⟩:=h;have h2:dp=dpp:=h2;have hn:bad=(n:Int):=hn;subst h2 hn
 match a,hne,hd with
 |t::tl,_,hd=>
 obtain⟨hlt,b,hla,⟨t0,t1,t2,t3,t4,t5,t6⟩,hbl⟩:=h1.tok hd;have hla:la=some ⟨b,0,none⟩:=hla;subst hla;have hTl:=h1.2;have k0:(0:Int)<=(n:Int):=U
 have k1:(n:Int)<(R.T.length:Int):=U
 have kneg:¬(n:Int)<0:=U
 have hp:((pos (t::tl):Nat):Int)=(t.at_:Int):=rfl;have HP:=qaa hp;clear h1 hd t0 t2 t3 t4 t5 t6 hp;cases dp with
 |true=>
  go_enter Tryz.func108,Tryz.ntmps108;go_wp2
  go_region_with fail
  all_goals
   go_wp2;refine bodyPost_ret (v:=jk #[.agg #[jf none 0 0,jf none 0 0,jf none 0 0],je jd 5,je jd (t.at_:Int)]) (by simp[results,Tryz.results108,go_sem]) rfl ?_;refine⟨by rw[HP.out];rfl,?_⟩
   repeat (first|exact qaf _ _|refine qak ?_|refine zac ?_ rfl _)
 |false=>
  go_enter Tryz.func108,Tryz.ntmps108;go_wp2
  go_region_with fail
  all_goals
   go_wp2;refine bodyPost_ret (v:=jk #[.agg #[jf none 0 0,jf none 0 0,jf none 0 0],je jd 1,je jd (t.at_:Int)]) (by simp[results,Tryz.results108,go_sem]) rfl ?_;refine⟨by rw[HP.out];rfl,?_⟩
   repeat (first|exact qaf _ _|refine qak ?_|refine zac ?_ rfl _)
theorem zw3 {ts:List Tok}{f:MF}(la:Option Addr)(lc:Nat)(i:Int)(ra:Option Addr)(rn rc:Nat)(na:Option Addr)(nn nc:Nat)(ca:Option Addr)(cn cc:Nat)(h:RSt R rs ts f qs ⟨la,lc,i,ra,rn,rc,na,nn,nc,ca,cn,cc,-1,false⟩ w) :
  Calls Tryz.prog 108 #[.agg #[jf la R.T.length lc,je jd i,jf ra rn rc,jf na nn nc,jf ca cn cc,je jd (-1),ji false,ji R.one]] w (FinIs R.base (if kd ts=0 then .ok rs f else .bad ts false) w):=by
 have hS:=h;obtain⟨h1,-,-,⟨n,hi,hd⟩,hne,e1,e2,e3,-⟩:=h;have hi:i=(n:Int):=hi;have e1:rn=rs.length:=e1;have e2:nn=f.nodes.length:=e2;have e3:cn=f.calls.length:=e3;subst hi e1 e2 e3
 match ts,hne,hd,hS with
 |t::tl,_,hd,hS=>
 have HS:=qaa hS;obtain⟨hlt,b,hla,⟨t0,t1,t2,t3,t4,t5,t6⟩,hbl⟩:=h1.tok hd;have hla:la=some ⟨b,0,none⟩:=hla;subst hla;have hTl:=h1.2;have hKD:=fun(W:World) (hb:Below w.heap.size w W)=>za9 R ⟨some ⟨b,0,none⟩,lc,(n:Int),ra,rs.length,rc,na,f.nodes.length,nc,ca,f.calls.length,cc,-1,false⟩ W n t tl (h1.below hb) rfl hd
 unfold SV.v at hKD;dsimp only at hKD;have k0:(0:Int)<=(n:Int):=U
 have k1:(n:Int)<(R.T.length:Int):=U
 have kneg:¬(n:Int)<0:=U
 have kneg1:(-1:Int)<0:=ja
 have ekd:kd (t::tl)=t.kind:=rfl;rw[ekd];have hq:∀(W:World),Below w.heap.size w W->W.cell? ⟨b,n*7+1,none⟩=some (je jd (t.at_:Int))/\b<W.heap.size:=fun W hb=>by
  obtain⟨-,b',hb',⟨-,q,-⟩,hl⟩:=(h1.below hb).tok hd;have e:b=b':=by
   have e:(some (⟨b,0,none⟩:Addr))=some ⟨b',0,none⟩:=hb';injection e with e;injection e
  subst e;exact⟨q,hl⟩
 have HQ:=qaa hq;clear h1 hd t0 t1 t2 t3 t4 t5 t6 hS hq ekd;by_cases h0:t.kind=0
 ·rw[if_pos h0]
  have ek:kI t.kind=0:=by rw[h0];rfl
  rw[ek] at hKD;have HKD:=qaa hKD;clear hKD ek h0;go_enter Tryz.func108,Tryz.ntmps108
  go_wp2_with (go_at_call 105;(with_reducible refine(HKD.out _ ?_).mono ?_);(· repeat (first|exact qaf _ _|refine qak ?_|refine zac ?_ rfl _));rintro e w2 ⟨rfl,hb⟩;have hX:Bl w2 w.heap.size 167 #[jf (some ⟨b,0,none⟩) R.T.length lc,je jd (n:Int),jf ra rs.length rc,jf na f.nodes.length nc,jf ca f.calls.length cc,je jd (-1),ji false,ji R.one]:=Bl.below (by repeat (first|(refine Bl.new' ?_;simp;done)|refine Bl.drew ?_|refine Bl.past ?_)) hb;have hO:Bl w2 (w.heap.size+1) 133 zeroF:=Bl.below (by unfold zeroF;repeat (first|(refine Bl.new' ?_;simp;done)|refine Bl.drew ?_|refine Bl.past ?_)) hb;have hB:Below w.heap.size w w2:=Below.trans (by repeat (first|exact qaf _ _|refine qak ?_|refine zac ?_ rfl _)) (hb.mono (by simp<;>omega));obtain⟨⟨x0,x1,x2,x3,x4,x5,x6,x7⟩,xf,xl⟩:=zad hX;unfold zeroF at hO;have o0:w2.cell? ⟨w.heap.size+1,0,none⟩=some (jf none 0 0):=hO.cell rfl;have o1:w2.cell? ⟨w.heap.size+1,1,none⟩=some (jf none 0 0):=hO.cell rfl;have o2:w2.cell? ⟨w.heap.size+1,2,none⟩=some (jf none 0 0):=hO.cell rfl;have of:=hO.free;have ol:=hO.lt;have HO:=qaa hO;have HB:=qaa hB;clear hb hX hO hB)
  have k0:(((w2.setCell ⟨w.heap.size+1,0,none⟩ (jf ra rs.length rc)).setCell ⟨w.heap.size+1,1,none⟩ (jf na f.nodes.length nc)).setCell ⟨w.heap.size+1,2,none⟩ (jf ca f.calls.length cc)).cell? ⟨w.heap.size+1,0,none⟩=some (jf ra rs.length rc):=by rw[cso ja,cso ja];exact css o0
  have k1:(((w2.setCell ⟨w.heap.size+1,0,none⟩ (jf ra rs.length rc)).setCell ⟨w.heap.size+1,1,none⟩ (jf na f.nodes.length nc)).setCell ⟨w.heap.size+1,2,none⟩ (jf ca f.calls.length cc)).cell? ⟨w.heap.size+1,1,none⟩=some (jf na f.nodes.length nc):=by rw[cso ja];exact css (by rw[cso ja];exact o1)
  have k2:(((w2.setCell ⟨w.heap.size+1,0,none⟩ (jf ra rs.length rc)).setCell ⟨w.heap.size+1,1,none⟩ (jf na f.nodes.length nc)).setCell ⟨w.heap.size+1,2,none⟩ (jf ca f.calls.length cc)).cell? ⟨w.heap.size+1,2,none⟩=some (jf ca f.calls.length cc):=css (by rw[cso ja,cso ja];exact o2);have hz:=HO.out;obtain⟨-,-,-,-,-,-,-,-,r9,r10,r11⟩:=HS.out.below HB.out;clear x0 x1 x2 x3 x4 x5 x6 x7 xf o0 o1 o2 of;refine bodyPost_ret (v:=jk #[.agg #[jf ra rs.length rc,jf na f.nodes.length nc,jf ca f.calls.length cc],je jd 0,je jd 0]) (by simp[results,Tryz.results108,go_sem,k0,k1,k2]) rfl ?_;have st:∀ {base:Nat} {T:TypeId} {sz m:Nat} {v:Value} {xs:List Value},w2.ownsRow base T sz v m xs->T≠133->(((w2.setCell ⟨w.heap.size+1,0,none⟩ (jf ra rs.length rc)).setCell ⟨w.heap.size+1,1,none⟩ (jf na f.nodes.length nc)).setCell ⟨w.heap.size+1,2,none⟩ (jf ca f.calls.length cc)).ownsRow base T sz v m xs:=fun h ht=>
   ownsRow_setCell_other (ownsRow_setCell_other (ownsRow_setCell_other h (a:=⟨w.heap.size+1,0,none⟩) (zaq h hz ht) _) (a:=⟨w.heap.size+1,1,none⟩) (zaq h hz ht) _) (a:=⟨w.heap.size+1,2,none⟩) (zaq h hz ht) _
  exact⟨ra,rc,na,nc,ca,cc,qs,rfl,⟨r9.1,st r9.2.1 ja,fun j m q a b=>st (r9.2.2 j m q a b) ja⟩,st r10 ja,st r11 ja,((HB.out.setCell (p:=⟨w.heap.size+1,0,none⟩) (qbh _) _).setCell (p:=⟨w.heap.size+1,1,none⟩) (qbh _) _).setCell (p:=⟨w.heap.size+1,2,none⟩) (qbh _) _⟩
 ·rw[if_neg h0]
  have ek:(kI t.kind != 0)=true:=zah (kI_ne h0);obtain⟨kk,hkk⟩:∃y,kI t.kind=y:=⟨_,rfl⟩;rw[hkk] at hKD ek;have HKD:=qaa hKD;have HP:=qaa (show((pos (t::tl):Nat):Int)=(t.at_:Int) from rfl);clear hKD hkk h0;go_enter Tryz.func108,Tryz.ntmps108
  go_wp2_with (go_at_call 105;(with_reducible refine(HKD.out _ ?_).mono ?_);(· repeat (first|exact qaf _ _|refine qak ?_|refine zac ?_ rfl _));rintro e w2 ⟨rfl,hb⟩;have hX:Bl w2 w.heap.size 167 #[jf (some ⟨b,0,none⟩) R.T.length lc,je jd (n:Int),jf ra rs.length rc,jf na f.nodes.length nc,jf ca f.calls.length cc,je jd (-1),ji false,ji R.one]:=Bl.below (by repeat (first|(refine Bl.new' ?_;simp;done)|refine Bl.drew ?_|refine Bl.past ?_)) hb;have hO:Bl w2 (w.heap.size+1) 133 zeroF:=Bl.below (by unfold zeroF;repeat (first|(refine Bl.new' ?_;simp;done)|refine Bl.drew ?_|refine Bl.past ?_)) hb;have hB:Below w.heap.size w w2:=Below.trans (by repeat (first|exact qaf _ _|refine qak ?_|refine zac ?_ rfl _)) (hb.mono (by simp<;>omega));obtain⟨⟨x0,x1,x2,x3,x4,x5,x6,x7⟩,xf,xl⟩:=zad hX;unfold zeroF at hO;have o0:w2.cell? ⟨w.heap.size+1,0,none⟩=some (jf none 0 0):=hO.cell rfl;have o1:w2.cell? ⟨w.heap.size+1,1,none⟩=some (jf none 0 0):=hO.cell rfl;have o2:w2.cell? ⟨w.heap.size+1,2,none⟩=some (jf none 0 0):=hO.cell rfl;have of:=hO.free;have ol:=hO.lt;have HO:=qaa hO;have HB:=qaa hB;have HX:=qaa hX;clear hb hX hO hB)
  have hx5:Bl (w2.setCell ⟨w.heap.size,5,none⟩ (je jd (n:Int))) w.heap.size 167 #[jf (some ⟨b,0,none⟩) R.T.length lc,je jd (n:Int),jf ra rs.length rc,jf na f.nodes.length nc,jf ca f.calls.length cc,je jd (n:Int),ji false,ji R.one]:=Bl.put (i:=5) HX.out _;have ho5:=HO.out.other (o:=5) (show w.heap.size+1≠w.heap.size by omega) (je jd (n:Int));have hb5:=HB.out.setCell (p:=⟨w.heap.size,5,none⟩) (qac _) (je jd (n:Int));obtain⟨W5,hW5⟩:∃W5,w2.setCell ⟨w.heap.size,5,none⟩ (je jd (n:Int))=W5:=⟨_,rfl⟩;rw[hW5] at hx5 ho5 hb5 ⊢;obtain⟨q1,ql⟩:=HQ.out _ hb5;clear x0 x1 x2 x3 x4 x5 x6 x7 xf xl o0 o1 o2 of ol hW5;obtain⟨⟨x0,x1,x2,x3,x4,x5,x6,x7⟩,xf,xl⟩:=zad hx5;have o0:W5.cell? ⟨w.heap.size+1,0,none⟩=some (jf none 0 0):=ho5.cell rfl;have o1:W5.cell? ⟨w.heap.size+1,1,none⟩=some (jf none 0 0):=ho5.cell rfl;have o2:W5.cell? ⟨w.heap.size+1,2,none⟩=some (jf none 0 0):=ho5.cell rfl;have of:=ho5.free;have ol:=ho5.lt;have HO5:=qaa ho5;have HB5:=qaa hb5;have hs5:=hb5.size;clear hx5 ho5 hb5
  go_region_with fail
  all_goals
   go_wp2;have k0:(((W5.setCell ⟨w.heap.size+1,0,none⟩ (jf none 0 0)).setCell ⟨w.heap.size+1,1,none⟩ (jf none 0 0)).setCell ⟨w.heap.size+1,2,none⟩ (jf none 0 0)).cell? ⟨w.heap.size+1,0,none⟩=some (jf none 0 0):=by rw[cso ja,cso ja];exact css o0
   have k1:(((W5.setCell ⟨w.heap.size+1,0,none⟩ (jf none 0 0)).setCell ⟨w.heap.size+1,1,none⟩ (jf none 0 0)).setCell ⟨w.heap.size+1,2,none⟩ (jf none 0 0)).cell? ⟨w.heap.size+1,1,none⟩=some (jf none 0 0):=by rw[cso ja];exact css (by rw[cso ja];exact o1)
   have k2:(((W5.setCell ⟨w.heap.size+1,0,none⟩ (jf none 0 0)).setCell ⟨w.heap.size+1,1,none⟩ (jf none 0 0)).setCell ⟨w.heap.size+1,2,none⟩ (jf none 0 0)).cell? ⟨w.heap.size+1,2,none⟩=some (jf none 0 0):=css (by rw[cso ja,cso ja];exact o2);clear x0 x1 x2 x3 x4 x5 x6 x7 xf o0 o1 o2 of;refine bodyPost_ret (v:=jk #[.agg #[jf none 0 0,jf none 0 0,jf none 0 0],je jd 1,je jd (t.at_:Int)]) (by simp[results,Tryz.results108,go_sem,k0,k1,k2]) rfl ?_;refine⟨by rw[HP.out];rfl,?_⟩
   repeat (first|exact HB5.out|refine qak ?_|refine Below.setCell (p:=⟨w.heap.size+1,_,none⟩) ?_ (qbh _) _)
end
section
open Go.RowKit
def PT (R:RC)(w:World)(B:Nat)(x:SV)(W:World):Prop:=Bl W B 167 (Cel R x)/\Bl W w.heap.size 133 zeroF/\Below w.heap.size w W/\w.heap.size<B
section
variable {R:RC} {w W W' W0 W2:World} {x y:SV} {B:Nat} {O:FO} {e:Ending}
theorem PT.below (h:PT R w B x W)(hb:Below W.heap.size W W'):PT R w B x W':=⟨h.1.below hb,h.2.1.below hb,h.2.2.1.trans (hb.mono h.2.2.1.size),h.2.2.2⟩
theorem Bl.file8 {b:Nat}(h:Bl W b 133 cs)(hb:b≠B):Bl (st8 W B R x) b 133 cs:=by
 unfold st8;exact Bl.other8 h hb _ _ _ _ _ _ _ _
theorem PT.st8 (h:PT R w B y W)(x:SV):PT R w B x (st8 W B R x):=by
 have hne:w.heap.size≠B:=by have:=h.2.2.2;omega
 have hle:w.heap.size<=B:=qdb h.2.2.2;refine⟨?_,h.2.1.file8 hne,?_,h.2.2.2⟩
 ·unfold Go.Proofs.YtmopdlbpkiaoeaaGreatDoor.st8
  exact zay h.1 _ _ _ _ _ _ _ _
 ·unfold Go.Proofs.YtmopdlbpkiaoeaaGreatDoor.st8
  exact zbh h.2.2.1 hle _ _ _ _ _ _ _ _
theorem RBad.st8' {a:List Tok}{dp:Bool}(h:RBad R rs a dp z W)(hB:Bl W B 167 cs)(x:SV):RBad R rs a dp z (Go.Proofs.YtmopdlbpkiaoeaaGreatDoor.st8 W B R x):=by
 unfold Go.Proofs.YtmopdlbpkiaoeaaGreatDoor.st8;exact RBad.low8 h hB _ _ _ _ _ _ _ _
theorem RSt.st8' {ts:List Tok}{f:MF}(h:RSt R rs ts f qs z W)(hB:Bl W B 167 cs)(x:SV):RSt R rs ts f qs z (Go.Proofs.YtmopdlbpkiaoeaaGreatDoor.st8 W B R x):=by
 unfold Go.Proofs.YtmopdlbpkiaoeaaGreatDoor.st8;exact RSt.low8 h hB _ _ _ _ _ _ _ _
theorem PT.put (h:PT R w B x W)(n:Int):PT R w B { x with i:=n } (W.setCell ⟨B,1,none⟩ (je jd n)):=by
 have h4:=h.2.2.2;exact⟨Bl.put (i:=1) h.1 _,h.2.1.other U _,h.2.2.1.setCell (p:=⟨B,1,none⟩) (qdb h4) _,h4⟩
theorem zil (h:FinIs w.heap.size O W0 e W2)(hb:Below w.heap.size w W0)(hF:Bl W0 w.heap.size 133 zeroF) :
  ∃fa fn fc ga gn gc ha hn hc co at9,e=.returned (jk #[.agg #[jf fa fn fc,jf ga gn gc,jf ha hn hc],je jd co,je jd at9])/\Bl W2 w.heap.size 133 zeroF /\
   ∀a b c,FinIs w.heap.size O w (.returned (jk #[.agg #[jf fa fn fc,jf ga gn gc,jf ha hn hc],je jd co,je jd at9])) (((W2.setCell ⟨w.heap.size,0,none⟩ a).setCell ⟨w.heap.size,1,none⟩ b).setCell ⟨w.heap.size,2,none⟩ c):=by
 cases O with
 |bad a dp=>
  obtain⟨rfl,h4⟩:=h;refine⟨none,0,0,none,0,0,none,0,0,_,_,rfl,hF.below h4,fun a b c=>⟨rfl,?_⟩⟩;exact(((hb.trans (h4.mono hb.size)).setCell (p:=⟨w.heap.size,0,none⟩) (qac _) a).setCell (p:=⟨w.heap.size,1,none⟩) (qac _) b).setCell (p:=⟨w.heap.size,2,none⟩) (qac _) c
 |ok rs f=>
  obtain⟨ra,rc,na,nc,ca,cc,qs,rfl,h1,h2,h3,h4⟩:=h;have hz:=hF.below h4;have st:∀ {base:Nat} {T:TypeId} {sz m:Nat} {v:Value} {xs:List Value},W2.ownsRow base T sz v m xs->T≠133->∀a b c,(((W2.setCell ⟨w.heap.size,0,none⟩ a).setCell ⟨w.heap.size,1,none⟩ b).setCell ⟨w.heap.size,2,none⟩ c).ownsRow base T sz v m xs:=fun h ht a b c=>
   ownsRow_setCell_other (ownsRow_setCell_other (ownsRow_setCell_other h (a:=⟨w.heap.size,0,none⟩) (zaq h hz ht) _) (a:=⟨w.heap.size,1,none⟩) (zaq h hz ht) _) (a:=⟨w.heap.size,2,none⟩) (zaq h hz ht) _
  refine⟨ra,_,rc,na,_,nc,ca,_,cc,0,0,rfl,hz,fun a b c=>⟨ra,rc,na,nc,ca,cc,qs,rfl,⟨h1.1,st h1.2.1 ja _ _ _,fun j m q e1 e2=>st (h1.2.2 j m q e1 e2) ja _ _ _⟩,st h2 ja _ _ _,st h3 ja _ _ _,?_⟩⟩;exact(((hb.trans (h4.mono hb.size)).setCell (p:=⟨w.heap.size,0,none⟩) (qac _) a).setCell (p:=⟨w.heap.size,1,none⟩) (qac _) b).setCell (p:=⟨w.heap.size,2,none⟩) (qac _) c
end
def ParR (R:RC)(N:Nat)(w:World)(B:Nat)(F:List Tok->MF->PO)(O:FO)(gk:Nat)(wr:World):Prop:=
 ∃x,PT R w B x wr/\((∃rs a g qs,RSt R rs a g qs x wr/\(if rs.length≠0/\kd a=0 then FO.ok rs g else defsL true F gk a g rs)=O/\Fit 2 N rs a g/\rs.length+a.length<=N/\a.length<gk/\Endy a)∨(∃rs c dp,RBad R rs c dp x wr/\O=.bad c dp))
def EO (R:RC)(rs:List (List Nat × Nat × Int))(qs:List Value)(lo:Nat)(o:PO)(k:Int)(x:SV)(W:World):Prop:=match o with
 |.ok a g=>k=lastI g/\RF R rs a g qs lo x W
 |.bad a dp=>RBad R rs a dp x W
theorem RO.eo {w':World}{o:PO}{e:Ending}(h:RO R rs qs w o e w') :
  ∃k la lc i ra rn rc na nn nc ca cn cc bad dp,e=.returned (jk #[.agg #[jf la R.T.length lc,je jd i,jf ra rn rc,jf na nn nc,jf ca cn cc,je jd bad,ji dp,ji R.one],je jd k])/\Below w.heap.size w w'/\DRow R rs ⟨la,lc,i,ra,rn,rc,na,nn,nc,ca,cn,cc,bad,dp⟩ w'/\EO R rs qs w.heap.size o k ⟨la,lc,i,ra,rn,rc,na,nn,nc,ca,cn,cc,bad,dp⟩ w':=by
 cases o with
 |ok a g=>
  obtain⟨la,lc,i,ra,rn,rc,na,nn,nc,ca,cn,cc,bad,dp,h1,h2,h3⟩:=h;exact⟨_,la,lc,i,ra,rn,rc,na,nn,nc,ca,cn,cc,bad,dp,h1,h2,h3.choose_spec.1.rrow,rfl,h3⟩
 |bad a d=>
  obtain⟨la,lc,i,ra,rn,rc,na,nn,nc,ca,cn,cc,bad,dp,h1,h2,h3⟩:=h;exact⟨_,la,lc,i,ra,rn,rc,na,nn,nc,ca,cn,cc,bad,dp,h1,h2,h3.2.2.2.2,h3⟩
def ruleO (F:List Tok->MF->PO)(m:Nat)(rs:List (List Nat × Nat × Int))(tx:List Nat)(p:Nat)(o:PO):FO:=match o with
 |.bad a d=>FO.bad a d
 |.ok a g=>if kd a=0 then .ok (rs++[(tx,p,lastI g)]) g else defsL true F m a g (rs++[(tx,p,lastI g)])
theorem EO.st8 {lo:Nat}{o:PO}{k:Int}{W:World}{B:Nat}(h:EO R rs qs lo o k z W)(hB:Bl W B 167 cs)(x:SV):EO R rs qs lo o k z (Go.Proofs.YtmopdlbpkiaoeaaGreatDoor.st8 W B R x):=by
 cases o with
 |ok a g=>
  obtain⟨h1,tq,h2,h3⟩:=h;exact⟨h1,tq,h2.st8' hB x,h3⟩
 |bad a d=>exact RBad.st8' h hB x
theorem ParR.rule {N:Nat}{W0 W:World}{B lo m:Nat}{F:List Tok->MF->PO}{O:FO}{o:PO}{k:Int}{x:SV}{a7:Option Addr}{c7:Nat}{tx:List Nat}{p:Nat}{lo':Nat}(hB:Bl W0 B 167 cs)(hF:Fr lo B W0 W)(hlo:W0.heap.size=lo)(hx:EO R rs qs lo' o k x W0)
  (hP:PT R w B { x with ra:=a7,rn:=rs.length+1,rc:=c7 } W) (hr:W.ownsRow R.base 173 3 (jf a7 (rs.length+1) c7) (rs.length+1) (defsC rs++[.string (strOf tx),je jd (p:Int),je jd k]))
  (hO:ruleO F m rs tx p o=O)
  (hFit:∀a g,o=.ok a g->Fit 2 N rs a g/\rs.length+1+a.length<=N/\a.length<m/\Endy a):ParR R N w B F O m W:=by
 refine⟨_,hP,?_⟩;have hl:(rs++[(tx,p,k)]).length=rs.length+1:=by rw[List.length_append,List.length_singleton]
 have hrow:DRow R (rs++[(tx,p,k)]) { x with ra:=a7,rn:=rs.length+1,rc:=c7 } W:=by
  refine⟨hl.symm,?_⟩;rw[hl,zk2];exact hr
 cases o with
 |bad a d=>
  right;have hb:=RBad.fr hx hB hF hlo;obtain⟨b1,b2,b3,b4,-⟩:=hb;exact⟨_,a,d,⟨b1,b2,b3,b4,hrow⟩,hO.symm⟩
 |ok a g=>
  left;obtain⟨rfl,tq,hS,-⟩:=hx;obtain⟨s1,s2,s3,s4,s5,-,s7,s8,s9,s10,-⟩:=RSt.fr hS hB hF hlo;obtain⟨f1,f2,f3,f4⟩:=hFit a g rfl;refine⟨rs++[(tx,p,lastI g)],a,g,qs++tq,⟨s1,s2,s3,s4,s5,hrow.1,s7,s8,s9,s10,hrow.2⟩,?_,⟨f1.1,f1.2.1,by rw[hl];omega,f1.2.2.2⟩,by rw[hl];exact f2,f3,f4⟩;rw[<-hO];unfold ruleO;dsimp only;by_cases h0:kd a=0
  ·rw[if_pos h0,if_pos ⟨by rw[hl];omega,h0⟩]
  ·rw[if_neg h0,if_neg (fun e=>h0 e.2)]
end
