/- Proved: the law LeftOrders returns true for every grammar, where the listed variable (vetch/lexer.signs) holds what the program's text lays in it; it changes nothing that lay in memory before. No further condition. -/
import Derived.Test.YthhppmehhdlmnaaGreatDoorPkLO
import Derived.Test.YthhppmehhdlmnaaGreatDoorPkGO
import Derived.Test.YthhppmehhdlmnaaGreatDoorPkLeftOA
import Derived.Test.YthhppmehhdlmnaaGreatDoorTie
import Derived.Test.YthhppmehhdlmnaaGreatDoorCards
import Derived.SevenTiedAt
import Derived.ChangeMaps5
set_option maxRecDepth 100000
set_option maxHeartbeats 200000
namespace Go.Proofs.YthhppmehhdlmnaaGreatDoor
open Go.ChangeShapes Go.WideShapes Go.ChangeAt Go.RowKit Go.ChangeMaps
theorem laidOut_lordr:laidOutB Tryz.prog=true:=by kernel_rfl
theorem lordr_lifted (os:Os)(started:os.Started)(H:Type)(enc:TypeId × Value->H) :
  ReturnsInHanded {} Tryz.checked os 4 .any (fun w args=>(Rows.leftOrdersSpec.pre enc Tryz.prog Tryz.f4 [] false w args/\laidMetH Tryz.prog laidS w)/\sizedMet enc Tryz.prog Tryz.f4 (OpenSpec.ofChange Rows.leftOrdersSpec) false w args)
   (Rows.leftOrdersSpec.post enc Tryz.prog Tryz.f4 false true false false):=by
 refine returnsInHanded_of_change_and (C:=Tryz.checked) (X:=fun w _=>laidMetH Tryz.prog laidS w) (fun _ _ _ hh h=>h.of_heap hh) own started (by kernel_rfl) Tryz.func4
  (ChangeSpec.witness_at (enc:=enc) (C:=Tryz.checked) (os:=os) (X:=fun w _=>laidMetH Tryz.prog laidS w) false (zgh os) #[.agg #[.slice none 0 0,.slice none 0 0]] 8 rfl (by kernel_rfl) (by kernel_rfl) (by kernel_rfl) (by kernel_rfl) (by kernel_rfl) (ze6 os _)) ?_
 intro W base args ds gs before hval0 hW _ _ hL _;have hval:∀(j:Nat) t v,Tryz.f4.params[j]?=some t->args[j]?=some v->Value.okWide Tryz.prog W .any base t v:=hval0;have hW':=hW;obtain⟨p,q,hA0,hV,rfl,hfz,hnd⟩:=hW;have hA:DataW.TrodAll enc Tryz.prog W 0 (fun _=>true) true Tryz.f4.params.toList args.toList ds p:=hA0;rw[Tryz.params4] at hA hval;obtain⟨v0,d0,rfl,rfl,h0⟩:=trodAll_one hA;obtain⟨rfl,rfl⟩:=trodVars_none hV;obtain⟨rv0,nv0,rs0,ns0,rfl,hr0,hn0,hc0,hcap0⟩:=ze9 (hval 0 25 v0 rfl rfl) h0;refine(law13_orders rv0 nv0 rs0 ns0 W (sgn13 hL) hr0 hn0 hc0).mono fun e W' ⟨he,hb⟩=>?_
 subst he;exact⟨_,rfl,zsl laidOut_lordr (by kernel_rfl) rfl rfl Tryz.underlying4 rfl rfl rfl hW' hb⟩
theorem lordr_holds:Rows.LeftOrdersSaid:=
 OpenClaim.holds_of_wide 4 Tryz.f4 rfl rfl rfl rfl rfl rfl rfl ⟨rfl,rfl,rfl,rfl,rfl⟩ rfl rfl rfl rfl rfl (by kernel_rfl) Tryz.func4 (by kernel_rfl)
  (of_decide_eq_true (by kernel_rfl)) (by unfold Func.isWrapper;first|(rw[if_pos (by decide +kernel)];kernel_rfl)|(rw[if_neg (by decide +kernel)];exact⟨rfl,rfl⟩))
  (fun os started H enc _=>lordr_lifted os started H enc)
theorem lordr_card:Rows.LeftOrdersCardSaid:=
 Claim7.holds_tied_plain_at .later [] [.data] true (true,Rows.leftOrdersCard.stood.harness.2) true
  lordr_holds (fun _ h=>by cases h) (by kernel_rfl) (fun _ h=>by cases h) leftOrders_row_tie rfl ⟨rfl,rfl⟩ (by kernel_rfl) rfl
  (fun f fn hf hfn=>by
   obtain rfl:f=4:=Option.some.inj ((show Tryz.prog.funcNamed "vetch/vetchlaw13.LeftOrders" = some 4 by kernel_rfl).symm.trans hf) |>.symm
   obtain rfl:fn=Tryz.f4:=(Option.some.inj (Tryz.func4.symm.trans hfn)).symm;exact⟨by kernel_rfl,fun j t ht=>by
    rw[Tryz.params4] at ht;rcases j with _|j
    ·have h3:t=25:=by simpa using ht.symm
     subst h3;exact(show Tryz.prog.wantsStandIn 25=false by kernel_rfl)
    ·simp at ht⟩)
  (by kernel_rfl)
end Go.Proofs.YthhppmehhdlmnaaGreatDoor
