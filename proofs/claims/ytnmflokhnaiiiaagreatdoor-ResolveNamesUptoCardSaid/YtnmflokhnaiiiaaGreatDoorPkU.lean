/- The reference: finish. The reference: Parse, its loop. -/
import Derived.Test.YtnmflokhnaiiiaaGreatDoorPkC
import Derived.Test.YtnmflokhnaiiiaaGreatDoorPkS
import Derived.Test.YtnmflokhnaiiiaaGreatDoorPkT
import Derived.Test.YtnmflokhnaiiiaaGreatDoorPkO
set_option maxRecDepth 100000
set_option maxHeartbeats 4000000
namespace Go.Proofs.YtnmflokhnaiiiaaGreatDoor
section
open Go.RowKit
def erC (dp:Bool):Int:=if dp then 5 else 1
def FinIs (base:Nat)(O:FO)(w:World)(e:Ending)(w':World):Prop:=match O with
 |.ok rs f=>∃ra rc na nc ca cc qs,e=.returned (.tuple #[.agg #[.slice ra rs.length rc,.slice na f.nodes.length nc,.slice ca f.calls.length cc],.int .i64 0,.int .i64 0])/\NRow base (.slice na f.nodes.length nc) f.nodes qs w'/\w'.ownsRow base 104 2 (.slice ca f.calls.length cc) f.calls.length (zcw f.calls)/\w'.ownsRow base 95 3 (.slice ra rs.length rc) rs.length (defsC rs)/\Below w.heap.size w w'
 |.bad a dp=>e=.returned (.tuple #[.agg #[.slice none 0 0,.slice none 0 0,.slice none 0 0],.int .i64 (erC dp),.int .i64 (pos a:Int)])/\Below w.heap.size w w'
def zeroF:Array Value:=#[.slice none 0 0,.slice none 0 0,.slice none 0 0]
theorem zhj {R:RC}{rs:List (List Nat × Nat × Int)}{a:List Tok}{dpp:Bool}{w:World}(la:Option Addr)(lc:Nat)(i:Int)(ra:Option Addr)(rn rc:Nat)(na:Option Addr)(nn nc:Nat)(ca:Option Addr)(cn cc:Nat)(bad:Int)(dp:Bool)(h:RBad R rs a dpp ⟨la,lc,i,ra,rn,rc,na,nn,nc,ca,cn,cc,bad,dp⟩ w) :
  Calls Tryz.prog 34 #[.agg #[.slice la R.T.length lc,.int .i64 i,.slice ra rn rc,.slice na nn nc,.slice ca cn cc,.int .i64 bad,.bool dp,.bool R.one]] w (FinIs R.base (.bad a dpp) w):=by
 obtain⟨h1,h2,⟨n,hn,hd⟩,hne,-⟩:=h;have h2:dp=dpp:=h2;have hn:bad=(n:Int):=hn;subst h2 hn
 match a,hne,hd with
 |t::tl,_,hd=>
 obtain⟨hlt,b,hla,⟨t0,t1,t2,t3,t4,t5,t6⟩,hbl⟩:=h1.tok hd;have hla:la=some ⟨b,0,none⟩:=hla;subst hla;have hTl:=h1.2;have k0:(0:Int)<=(n:Int):=by omega
 have k1:(n:Int)<(R.T.length:Int):=by omega
 have kneg:¬(n:Int)<0:=by omega
 have hp:((pos (t::tl):Nat):Int)=(t.at_:Int):=rfl;have HP:=Lib.hid hp;clear h1 hd t0 t2 t3 t4 t5 t6 hp;cases dp with
 |true=>
  go_enter Tryz.func34,Tryz.ntmps34;go_wp2
  go_region_with fail
  all_goals
   go_wp2;refine bodyPost_ret (v:=.tuple #[.agg #[.slice none 0 0,.slice none 0 0,.slice none 0 0],.int .i64 5,.int .i64 (t.at_:Int)]) (by simp[results,Tryz.results34,go_sem]) rfl ?_;refine⟨by rw[HP.out];rfl,?_⟩
   repeat (first|exact Below.refl _ _|refine Below.drew ?_|refine zac ?_ rfl _)
 |false=>
  go_enter Tryz.func34,Tryz.ntmps34;go_wp2
  go_region_with fail
  all_goals
   go_wp2;refine bodyPost_ret (v:=.tuple #[.agg #[.slice none 0 0,.slice none 0 0,.slice none 0 0],.int .i64 1,.int .i64 (t.at_:Int)]) (by simp[results,Tryz.results34,go_sem]) rfl ?_;refine⟨by rw[HP.out];rfl,?_⟩
   repeat (first|exact Below.refl _ _|refine Below.drew ?_|refine zac ?_ rfl _)
theorem zw3 {R:RC}{rs:List (List Nat × Nat × Int)}{ts:List Tok}{f:MF}{qs:List Value}{w:World}(la:Option Addr)(lc:Nat)(i:Int)(ra:Option Addr)(rn rc:Nat)(na:Option Addr)(nn nc:Nat)(ca:Option Addr)(cn cc:Nat)(h:RSt R rs ts f qs ⟨la,lc,i,ra,rn,rc,na,nn,nc,ca,cn,cc,-1,false⟩ w) :
  Calls Tryz.prog 34 #[.agg #[.slice la R.T.length lc,.int .i64 i,.slice ra rn rc,.slice na nn nc,.slice ca cn cc,.int .i64 (-1),.bool false,.bool R.one]] w (FinIs R.base (if kd ts=0 then .ok rs f else .bad ts false) w):=by
 have hS:=h;obtain⟨h1,-,-,⟨n,hi,hd⟩,hne,e1,e2,e3,-⟩:=h;have hi:i=(n:Int):=hi;have e1:rn=rs.length:=e1;have e2:nn=f.nodes.length:=e2;have e3:cn=f.calls.length:=e3;subst hi e1 e2 e3
 match ts,hne,hd,hS with
 |t::tl,_,hd,hS=>
 have HS:=Lib.hid hS;obtain⟨hlt,b,hla,⟨t0,t1,t2,t3,t4,t5,t6⟩,hbl⟩:=h1.tok hd;have hla:la=some ⟨b,0,none⟩:=hla;subst hla;have hTl:=h1.2;have hKD:=fun(W:World) (hb:Below w.heap.size w W)=>za9 R ⟨some ⟨b,0,none⟩,lc,(n:Int),ra,rs.length,rc,na,f.nodes.length,nc,ca,f.calls.length,cc,-1,false⟩ W n t tl (h1.below hb) rfl hd
 unfold SV.v at hKD;dsimp only at hKD;have k0:(0:Int)<=(n:Int):=by omega
 have k1:(n:Int)<(R.T.length:Int):=by omega
 have kneg:¬(n:Int)<0:=by omega
 have kneg1:(-1:Int)<0:=by decide
 have ekd:kd (t::tl)=t.kind:=rfl;rw[ekd];have hq:∀(W:World),Below w.heap.size w W->W.cell? ⟨b,n*7+1,none⟩=some (.int .i64 (t.at_:Int))/\b<W.heap.size:=fun W hb=>by
  obtain⟨-,b',hb',⟨-,q,-⟩,hl⟩:=(h1.below hb).tok hd;have e:b=b':=by
   have e:(some (⟨b,0,none⟩:Addr))=some ⟨b',0,none⟩:=hb';injection e with e;injection e
  subst e;exact⟨q,hl⟩
 have HQ:=Lib.hid hq;clear h1 hd t0 t1 t2 t3 t4 t5 t6 hS hq ekd;by_cases h0:t.kind=0
 ·rw[if_pos h0]
  have ek:kI t.kind=0:=by rw[h0];rfl
  rw[ek] at hKD;have HKD:=Lib.hid hKD;clear hKD ek h0;go_enter Tryz.func34,Tryz.ntmps34
  go_wp2_with (go_at_call 31;(with_reducible refine(HKD.out _ ?_).mono ?_);(· repeat (first|exact Below.refl _ _|refine Below.drew ?_|refine zac ?_ rfl _));rintro e w2 ⟨rfl,hb⟩;have hX:Bl w2 w.heap.size 89 #[.slice (some ⟨b,0,none⟩) R.T.length lc,.int .i64 (n:Int),.slice ra rs.length rc,.slice na f.nodes.length nc,.slice ca f.calls.length cc,.int .i64 (-1),.bool false,.bool R.one]:=Bl.below (by repeat (first|(refine Bl.new' ?_;simp;done)|refine Bl.drew ?_|refine Bl.past ?_)) hb;have hO:Bl w2 (w.heap.size+1) 34 zeroF:=Bl.below (by unfold zeroF;repeat (first|(refine Bl.new' ?_;simp;done)|refine Bl.drew ?_|refine Bl.past ?_)) hb;have hB:Below w.heap.size w w2:=Below.trans (by repeat (first|exact Below.refl _ _|refine Below.drew ?_|refine zac ?_ rfl _)) (hb.mono (by simp<;>omega));obtain⟨⟨x0,x1,x2,x3,x4,x5,x6,x7⟩,xf,xl⟩:=zad hX;unfold zeroF at hO;have o0:w2.cell? ⟨w.heap.size+1,0,none⟩=some (.slice none 0 0):=hO.cell rfl;have o1:w2.cell? ⟨w.heap.size+1,1,none⟩=some (.slice none 0 0):=hO.cell rfl;have o2:w2.cell? ⟨w.heap.size+1,2,none⟩=some (.slice none 0 0):=hO.cell rfl;have of:=hO.free;have ol:=hO.lt;have HO:=Lib.hid hO;have HB:=Lib.hid hB;clear hb hX hO hB)
  have k0:(((w2.setCell ⟨w.heap.size+1,0,none⟩ (.slice ra rs.length rc)).setCell ⟨w.heap.size+1,1,none⟩ (.slice na f.nodes.length nc)).setCell ⟨w.heap.size+1,2,none⟩ (.slice ca f.calls.length cc)).cell? ⟨w.heap.size+1,0,none⟩=some (.slice ra rs.length rc):=by rw[cso (by decide),cso (by decide)];exact css o0
  have k1:(((w2.setCell ⟨w.heap.size+1,0,none⟩ (.slice ra rs.length rc)).setCell ⟨w.heap.size+1,1,none⟩ (.slice na f.nodes.length nc)).setCell ⟨w.heap.size+1,2,none⟩ (.slice ca f.calls.length cc)).cell? ⟨w.heap.size+1,1,none⟩=some (.slice na f.nodes.length nc):=by rw[cso (by decide)];exact css (by rw[cso (by decide)];exact o1)
  have k2:(((w2.setCell ⟨w.heap.size+1,0,none⟩ (.slice ra rs.length rc)).setCell ⟨w.heap.size+1,1,none⟩ (.slice na f.nodes.length nc)).setCell ⟨w.heap.size+1,2,none⟩ (.slice ca f.calls.length cc)).cell? ⟨w.heap.size+1,2,none⟩=some (.slice ca f.calls.length cc):=css (by rw[cso (by decide),cso (by decide)];exact o2);have hz:=HO.out;obtain⟨-,-,-,-,-,-,-,-,r9,r10,r11⟩:=HS.out.below HB.out;clear x0 x1 x2 x3 x4 x5 x6 x7 xf o0 o1 o2 of;refine bodyPost_ret (v:=.tuple #[.agg #[.slice ra rs.length rc,.slice na f.nodes.length nc,.slice ca f.calls.length cc],.int .i64 0,.int .i64 0]) (by simp[results,Tryz.results34,go_sem,k0,k1,k2]) rfl ?_;have st:∀ {base:Nat} {T:TypeId} {sz m:Nat} {v:Value} {xs:List Value},w2.ownsRow base T sz v m xs->T≠34->(((w2.setCell ⟨w.heap.size+1,0,none⟩ (.slice ra rs.length rc)).setCell ⟨w.heap.size+1,1,none⟩ (.slice na f.nodes.length nc)).setCell ⟨w.heap.size+1,2,none⟩ (.slice ca f.calls.length cc)).ownsRow base T sz v m xs:=fun h ht=>
   ownsRow_setCell_other (ownsRow_setCell_other (ownsRow_setCell_other h (a:=⟨w.heap.size+1,0,none⟩) (zaq h hz ht) _) (a:=⟨w.heap.size+1,1,none⟩) (zaq h hz ht) _) (a:=⟨w.heap.size+1,2,none⟩) (zaq h hz ht) _
  exact⟨ra,rc,na,nc,ca,cc,qs,rfl,⟨r9.1,st r9.2.1 (by decide),fun j m q a b=>st (r9.2.2 j m q a b) (by decide)⟩,st r10 (by decide),st r11 (by decide),((HB.out.setCell (p:=⟨w.heap.size+1,0,none⟩) (Nat.le_succ _) _).setCell (p:=⟨w.heap.size+1,1,none⟩) (Nat.le_succ _) _).setCell (p:=⟨w.heap.size+1,2,none⟩) (Nat.le_succ _) _⟩
 ·rw[if_neg h0]
  have ek:(kI t.kind != 0)=true:=zah (kI_ne h0);obtain⟨kk,hkk⟩:∃y,kI t.kind=y:=⟨_,rfl⟩;rw[hkk] at hKD ek;have HKD:=Lib.hid hKD;have HP:=Lib.hid (show((pos (t::tl):Nat):Int)=(t.at_:Int) from rfl);clear hKD hkk h0;go_enter Tryz.func34,Tryz.ntmps34
  go_wp2_with (go_at_call 31;(with_reducible refine(HKD.out _ ?_).mono ?_);(· repeat (first|exact Below.refl _ _|refine Below.drew ?_|refine zac ?_ rfl _));rintro e w2 ⟨rfl,hb⟩;have hX:Bl w2 w.heap.size 89 #[.slice (some ⟨b,0,none⟩) R.T.length lc,.int .i64 (n:Int),.slice ra rs.length rc,.slice na f.nodes.length nc,.slice ca f.calls.length cc,.int .i64 (-1),.bool false,.bool R.one]:=Bl.below (by repeat (first|(refine Bl.new' ?_;simp;done)|refine Bl.drew ?_|refine Bl.past ?_)) hb;have hO:Bl w2 (w.heap.size+1) 34 zeroF:=Bl.below (by unfold zeroF;repeat (first|(refine Bl.new' ?_;simp;done)|refine Bl.drew ?_|refine Bl.past ?_)) hb;have hB:Below w.heap.size w w2:=Below.trans (by repeat (first|exact Below.refl _ _|refine Below.drew ?_|refine zac ?_ rfl _)) (hb.mono (by simp<;>omega));obtain⟨⟨x0,x1,x2,x3,x4,x5,x6,x7⟩,xf,xl⟩:=zad hX;unfold zeroF at hO;have o0:w2.cell? ⟨w.heap.size+1,0,none⟩=some (.slice none 0 0):=hO.cell rfl;have o1:w2.cell? ⟨w.heap.size+1,1,none⟩=some (.slice none 0 0):=hO.cell rfl;have o2:w2.cell? ⟨w.heap.size+1,2,none⟩=some (.slice none 0 0):=hO.cell rfl;have of:=hO.free;have ol:=hO.lt;have HO:=Lib.hid hO;have HB:=Lib.hid hB;have HX:=Lib.hid hX;clear hb hX hO hB)
  have hx5:Bl (w2.setCell ⟨w.heap.size,5,none⟩ (.int .i64 (n:Int))) w.heap.size 89 #[.slice (some ⟨b,0,none⟩) R.T.length lc,.int .i64 (n:Int),.slice ra rs.length rc,.slice na f.nodes.length nc,.slice ca f.calls.length cc,.int .i64 (n:Int),.bool false,.bool R.one]:=Bl.put (i:=5) HX.out _;have ho5:=HO.out.other (o:=5) (show w.heap.size+1≠w.heap.size by omega) (.int .i64 (n:Int));have hb5:=HB.out.setCell (p:=⟨w.heap.size,5,none⟩) (Nat.le_refl _) (.int .i64 (n:Int));obtain⟨W5,hW5⟩:∃W5,w2.setCell ⟨w.heap.size,5,none⟩ (.int .i64 (n:Int))=W5:=⟨_,rfl⟩;rw[hW5] at hx5 ho5 hb5 ⊢;obtain⟨q1,ql⟩:=HQ.out _ hb5;clear x0 x1 x2 x3 x4 x5 x6 x7 xf xl o0 o1 o2 of ol hW5;obtain⟨⟨x0,x1,x2,x3,x4,x5,x6,x7⟩,xf,xl⟩:=zad hx5;have o0:W5.cell? ⟨w.heap.size+1,0,none⟩=some (.slice none 0 0):=ho5.cell rfl;have o1:W5.cell? ⟨w.heap.size+1,1,none⟩=some (.slice none 0 0):=ho5.cell rfl;have o2:W5.cell? ⟨w.heap.size+1,2,none⟩=some (.slice none 0 0):=ho5.cell rfl;have of:=ho5.free;have ol:=ho5.lt;have HO5:=Lib.hid ho5;have HB5:=Lib.hid hb5;have hs5:=hb5.size;clear hx5 ho5 hb5
  go_region_with fail
  all_goals
   go_wp2;have k0:(((W5.setCell ⟨w.heap.size+1,0,none⟩ (.slice none 0 0)).setCell ⟨w.heap.size+1,1,none⟩ (.slice none 0 0)).setCell ⟨w.heap.size+1,2,none⟩ (.slice none 0 0)).cell? ⟨w.heap.size+1,0,none⟩=some (.slice none 0 0):=by rw[cso (by decide),cso (by decide)];exact css o0
   have k1:(((W5.setCell ⟨w.heap.size+1,0,none⟩ (.slice none 0 0)).setCell ⟨w.heap.size+1,1,none⟩ (.slice none 0 0)).setCell ⟨w.heap.size+1,2,none⟩ (.slice none 0 0)).cell? ⟨w.heap.size+1,1,none⟩=some (.slice none 0 0):=by rw[cso (by decide)];exact css (by rw[cso (by decide)];exact o1)
   have k2:(((W5.setCell ⟨w.heap.size+1,0,none⟩ (.slice none 0 0)).setCell ⟨w.heap.size+1,1,none⟩ (.slice none 0 0)).setCell ⟨w.heap.size+1,2,none⟩ (.slice none 0 0)).cell? ⟨w.heap.size+1,2,none⟩=some (.slice none 0 0):=css (by rw[cso (by decide),cso (by decide)];exact o2);clear x0 x1 x2 x3 x4 x5 x6 x7 xf o0 o1 o2 of;refine bodyPost_ret (v:=.tuple #[.agg #[.slice none 0 0,.slice none 0 0,.slice none 0 0],.int .i64 1,.int .i64 (t.at_:Int)]) (by simp[results,Tryz.results34,go_sem,k0,k1,k2]) rfl ?_;refine⟨by rw[HP.out];rfl,?_⟩
   repeat (first|exact HB5.out|refine Below.drew ?_|refine Below.setCell (p:=⟨w.heap.size+1,_,none⟩) ?_ (Nat.le_succ _) _)
end
section
open Go.RowKit
def PT (R:RC)(w:World)(B:Nat)(x:SV)(W:World):Prop:=Bl W B 89 (Cel R x)/\Bl W w.heap.size 34 zeroF/\Below w.heap.size w W/\w.heap.size<B
section
variable {R:RC} {w W W' W0 W2:World} {x y:SV} {B:Nat} {O:FO} {e:Ending}
theorem PT.below (h:PT R w B x W)(hb:Below W.heap.size W W'):PT R w B x W':=⟨h.1.below hb,h.2.1.below hb,h.2.2.1.trans (hb.mono h.2.2.1.size),h.2.2.2⟩
theorem Bl.file8 {b:Nat}{cs:Array Value}(h:Bl W b 34 cs)(hb:b≠B):Bl (st8 W B R x) b 34 cs:=by
 unfold st8;exact Bl.other8 h hb _ _ _ _ _ _ _ _
theorem PT.st8 (h:PT R w B y W)(x:SV):PT R w B x (st8 W B R x):=by
 have hne:w.heap.size≠B:=by have:=h.2.2.2;omega
 have hle:w.heap.size<=B:=Nat.le_of_lt h.2.2.2;refine⟨?_,h.2.1.file8 hne,?_,h.2.2.2⟩
 ·unfold Go.Proofs.YtnmflokhnaiiiaaGreatDoor.st8
  exact zay h.1 _ _ _ _ _ _ _ _
 ·unfold Go.Proofs.YtnmflokhnaiiiaaGreatDoor.st8
  exact zbh h.2.2.1 hle _ _ _ _ _ _ _ _
theorem RBad.st8' {rs:List (List Nat × Nat × Int)}{a:List Tok}{dp:Bool}{z:SV}{cs:Array Value}(h:RBad R rs a dp z W)(hB:Bl W B 89 cs)(x:SV):RBad R rs a dp z (Go.Proofs.YtnmflokhnaiiiaaGreatDoor.st8 W B R x):=by
 unfold Go.Proofs.YtnmflokhnaiiiaaGreatDoor.st8;exact RBad.low8 h hB _ _ _ _ _ _ _ _
theorem RSt.st8' {rs:List (List Nat × Nat × Int)}{ts:List Tok}{f:MF}{qs:List Value}{z:SV}{cs:Array Value}(h:RSt R rs ts f qs z W)(hB:Bl W B 89 cs)(x:SV):RSt R rs ts f qs z (Go.Proofs.YtnmflokhnaiiiaaGreatDoor.st8 W B R x):=by
 unfold Go.Proofs.YtnmflokhnaiiiaaGreatDoor.st8;exact RSt.low8 h hB _ _ _ _ _ _ _ _
theorem PT.put (h:PT R w B x W)(n:Int):PT R w B { x with i:=n } (W.setCell ⟨B,1,none⟩ (.int .i64 n)):=by
 have h4:=h.2.2.2;exact⟨Bl.put (i:=1) h.1 _,h.2.1.other (by omega) _,h.2.2.1.setCell (p:=⟨B,1,none⟩) (Nat.le_of_lt h4) _,h4⟩
theorem zil (h:FinIs w.heap.size O W0 e W2)(hb:Below w.heap.size w W0)(hF:Bl W0 w.heap.size 34 zeroF) :
  ∃fa fn fc ga gn gc ha hn hc co at9,e=.returned (.tuple #[.agg #[.slice fa fn fc,.slice ga gn gc,.slice ha hn hc],.int .i64 co,.int .i64 at9])/\Bl W2 w.heap.size 34 zeroF /\
   ∀a b c,FinIs w.heap.size O w (.returned (.tuple #[.agg #[.slice fa fn fc,.slice ga gn gc,.slice ha hn hc],.int .i64 co,.int .i64 at9])) (((W2.setCell ⟨w.heap.size,0,none⟩ a).setCell ⟨w.heap.size,1,none⟩ b).setCell ⟨w.heap.size,2,none⟩ c):=by
 cases O with
 |bad a dp=>
  obtain⟨rfl,h4⟩:=h;refine⟨none,0,0,none,0,0,none,0,0,_,_,rfl,hF.below h4,fun a b c=>⟨rfl,?_⟩⟩;exact(((hb.trans (h4.mono hb.size)).setCell (p:=⟨w.heap.size,0,none⟩) (Nat.le_refl _) a).setCell (p:=⟨w.heap.size,1,none⟩) (Nat.le_refl _) b).setCell (p:=⟨w.heap.size,2,none⟩) (Nat.le_refl _) c
 |ok rs f=>
  obtain⟨ra,rc,na,nc,ca,cc,qs,rfl,h1,h2,h3,h4⟩:=h;have hz:=hF.below h4;have st:∀ {base:Nat} {T:TypeId} {sz m:Nat} {v:Value} {xs:List Value},W2.ownsRow base T sz v m xs->T≠34->∀a b c,(((W2.setCell ⟨w.heap.size,0,none⟩ a).setCell ⟨w.heap.size,1,none⟩ b).setCell ⟨w.heap.size,2,none⟩ c).ownsRow base T sz v m xs:=fun h ht a b c=>
   ownsRow_setCell_other (ownsRow_setCell_other (ownsRow_setCell_other h (a:=⟨w.heap.size,0,none⟩) (zaq h hz ht) _) (a:=⟨w.heap.size,1,none⟩) (zaq h hz ht) _) (a:=⟨w.heap.size,2,none⟩) (zaq h hz ht) _
  refine⟨ra,_,rc,na,_,nc,ca,_,cc,0,0,rfl,hz,fun a b c=>⟨ra,rc,na,nc,ca,cc,qs,rfl,⟨h1.1,st h1.2.1 (by decide) _ _ _,fun j m q e1 e2=>st (h1.2.2 j m q e1 e2) (by decide) _ _ _⟩,st h2 (by decide) _ _ _,st h3 (by decide) _ _ _,?_⟩⟩;exact(((hb.trans (h4.mono hb.size)).setCell (p:=⟨w.heap.size,0,none⟩) (Nat.le_refl _) a).setCell (p:=⟨w.heap.size,1,none⟩) (Nat.le_refl _) b).setCell (p:=⟨w.heap.size,2,none⟩) (Nat.le_refl _) c
end
def ParR (R:RC)(N:Nat)(w:World)(B:Nat)(F:List Tok->MF->PO)(O:FO)(gk:Nat)(wr:World):Prop:=
 ∃x,PT R w B x wr/\((∃rs a g qs,RSt R rs a g qs x wr/\(if rs.length≠0/\kd a=0 then FO.ok rs g else defsL true F gk a g rs)=O/\Fit 2 N rs a g/\rs.length+a.length<=N/\a.length<gk/\Endy a)∨(∃rs c dp,RBad R rs c dp x wr/\O=.bad c dp))
def EO (R:RC)(rs:List (List Nat × Nat × Int))(qs:List Value)(lo:Nat)(o:PO)(k:Int)(x:SV)(W:World):Prop:=match o with
 |.ok a g=>k=lastI g/\RF R rs a g qs lo x W
 |.bad a dp=>RBad R rs a dp x W
theorem RO.eo {R:RC}{rs:List (List Nat × Nat × Int)}{qs:List Value}{w w':World}{o:PO}{e:Ending}(h:RO R rs qs w o e w') :
  ∃k la lc i ra rn rc na nn nc ca cn cc bad dp,e=.returned (.tuple #[.agg #[.slice la R.T.length lc,.int .i64 i,.slice ra rn rc,.slice na nn nc,.slice ca cn cc,.int .i64 bad,.bool dp,.bool R.one],.int .i64 k])/\Below w.heap.size w w'/\DRow R rs ⟨la,lc,i,ra,rn,rc,na,nn,nc,ca,cn,cc,bad,dp⟩ w'/\EO R rs qs w.heap.size o k ⟨la,lc,i,ra,rn,rc,na,nn,nc,ca,cn,cc,bad,dp⟩ w':=by
 cases o with
 |ok a g=>
  obtain⟨la,lc,i,ra,rn,rc,na,nn,nc,ca,cn,cc,bad,dp,h1,h2,h3⟩:=h;exact⟨_,la,lc,i,ra,rn,rc,na,nn,nc,ca,cn,cc,bad,dp,h1,h2,h3.choose_spec.1.rrow,rfl,h3⟩
 |bad a d=>
  obtain⟨la,lc,i,ra,rn,rc,na,nn,nc,ca,cn,cc,bad,dp,h1,h2,h3⟩:=h;exact⟨_,la,lc,i,ra,rn,rc,na,nn,nc,ca,cn,cc,bad,dp,h1,h2,h3.2.2.2.2,h3⟩
def ruleO (F:List Tok->MF->PO)(m:Nat)(rs:List (List Nat × Nat × Int))(tx:List Nat)(p:Nat)(o:PO):FO:=match o with
 |.bad a d=>FO.bad a d
 |.ok a g=>if kd a=0 then .ok (rs++[(tx,p,lastI g)]) g else defsL true F m a g (rs++[(tx,p,lastI g)])
theorem EO.st8 {R:RC}{rs:List (List Nat × Nat × Int)}{qs:List Value}{lo:Nat}{o:PO}{k:Int}{z:SV}{W:World}{B:Nat}{cs:Array Value}(h:EO R rs qs lo o k z W)(hB:Bl W B 89 cs)(x:SV):EO R rs qs lo o k z (Go.Proofs.YtnmflokhnaiiiaaGreatDoor.st8 W B R x):=by
 cases o with
 |ok a g=>
  obtain⟨h1,tq,h2,h3⟩:=h;exact⟨h1,tq,h2.st8' hB x,h3⟩
 |bad a d=>exact RBad.st8' h hB x
theorem ParR.rule {R:RC}{N:Nat}{w W0 W:World}{B lo m:Nat}{F:List Tok->MF->PO}{O:FO}{rs:List (List Nat × Nat × Int)}{qs:List Value}{o:PO}{k:Int}{x:SV}{a7:Option Addr}{c7:Nat}{cs:Array Value}{tx:List Nat}{p:Nat}{lo':Nat}(hB:Bl W0 B 89 cs)(hF:Fr lo B W0 W)(hlo:W0.heap.size=lo)(hx:EO R rs qs lo' o k x W0)
  (hP:PT R w B { x with ra:=a7,rn:=rs.length+1,rc:=c7 } W) (hr:W.ownsRow R.base 95 3 (.slice a7 (rs.length+1) c7) (rs.length+1) (defsC rs++[.string (strOf tx),.int .i64 (p:Int),.int .i64 k]))
  (hO:ruleO F m rs tx p o=O)
  (hFit:∀a g,o=.ok a g->Fit 2 N rs a g/\rs.length+1+a.length<=N/\a.length<m/\Endy a):ParR R N w B F O m W:=by
 refine⟨_,hP,?_⟩;have hl:(rs++[(tx,p,k)]).length=rs.length+1:=by rw[List.length_append,List.length_singleton]
 have hrow:DRow R (rs++[(tx,p,k)]) { x with ra:=a7,rn:=rs.length+1,rc:=c7 } W:=by
  refine⟨hl.symm,?_⟩;rw[hl,zk2];exact hr
 cases o with
 |bad a d=>
  right;have hb:=RBad.fr hx hB hF hlo;obtain⟨b1,b2,b3,b4,-⟩:=hb;exact⟨_,a,d,⟨b1,b2,b3,b4,hrow⟩,hO.symm⟩
 |ok a g=>
  left;obtain⟨rfl,tq,hS,-⟩:=hx;obtain⟨s1,s2,s3,s4,s5,-,s7,s8,s9,s10,-⟩:=RSt.fr hS hB hF hlo;obtain⟨f1,f2,f3,f4⟩:=hFit a g rfl;refine⟨rs++[(tx,p,lastI g)],a,g,qs++tq,⟨s1,s2,s3,s4,s5,hrow.1,s7,s8,s9,s10,hrow.2⟩,?_,⟨f1.1,f1.2.1,by rw[hl];omega,f1.2.2.2⟩,by rw[hl];exact f2,f3,f4⟩;rw[<-hO];unfold ruleO;dsimp only;by_cases h0:kd a=0
  ·rw[if_pos h0,if_pos ⟨by rw[hl];omega,h0⟩]
  ·rw[if_neg h0,if_neg (fun e=>h0 e.2)]
end
end Go.Proofs.YtnmflokhnaiiiaaGreatDoor
