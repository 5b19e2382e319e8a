/- Proved: the law PrinterCanonical returns true for every string, where the three listed variables (errors.errorType, vetch/lexer.signs, vetch/printer.signs) hold what the program's text lays in them; it changes nothing that lay in memory before. No further condition. -/
import Derived.Test.YtmopdlbpkiaoeaaGreatDoorTie
import Derived.Test.YtmopdlbpkiaoeaaGreatDoorCards
import Derived.SevenTiedAt
import Derived.ChangeMaps5
import Derived.Test.YtmopdlbpkiaoeaaGreatDoorPqLO
import Derived.Test.YtmopdlbpkiaoeaaGreatDoorPqL4
import Derived.Test.YtmopdlbpkiaoeaaGreatDoorPqLift
set_option maxRecDepth 100000
set_option maxHeartbeats 200000
namespace Go.Proofs.YtmopdlbpkiaoeaaGreatDoor
open Go.Proofs.Tryz renaming func6->qf1, prog->qab
open Option.some renaming inj->qar
open Go.ChangeShapes Go.WideShapes Go.ChangeAt Go.RowKit Go.ChangeMaps
theorem laidOut_pcan:laidOutB qab=true:=by kernel_rfl
theorem pcan_lifted (os:Os)(started:os.Started)(H:Type)(enc:TypeId × Value->H) :
  ReturnsInHanded {} Tryz.checked os 6 .any (fun w args=>(Rows.printerCanonicalSpec.pre enc qab Tryz.f6 [] false w args/\laidMetH qab yad6 w)/\sizedMet enc qab Tryz.f6 (OpenSpec.ofChange Rows.printerCanonicalSpec) false w args)
   (Rows.printerCanonicalSpec.post enc qab Tryz.f6 false true false false):=by
 refine returnsInHanded_of_change_and (C:=Tryz.checked) (X:=fun w _=>laidMetH qab yad6 w) (fun _ _ _ hh h=>h.of_heap hh) own started (by kernel_rfl) qf1
  (ChangeSpec.witness_at (enc:=enc) (C:=Tryz.checked) (os:=os) (X:=fun w _=>laidMetH qab yad6 w) false (z9i os) #[.string ⟨#[]⟩] 8 rfl (by kernel_rfl) (by kernel_rfl) (by kernel_rfl) (by kernel_rfl) (by kernel_rfl) (yacg os _)) ?_
 intro W base args ds gs before hval0 hW _ _ hL _;have hval:∀(j:Nat) t v,Tryz.f6.params[j]?=some t->args[j]?=some v->Value.okWide qab W .any base t v:=hval0;have hW':=hW;obtain⟨p,q,hA0,hV,rfl,hfz,hnd⟩:=hW;have hA:DataW.TrodAll enc qab W 0 (fun _=>true) true Tryz.f6.params.toList args.toList ds p:=hA0;rw[Tryz.params6] at hA hval;obtain⟨v0,d0,rfl,rfl,h0⟩:=trodAll_one hA;obtain⟨rfl,rfl⟩:=trodVars_none hV;obtain⟨s,rfl,-,-,-⟩:=open_string Tryz.underlying9 (hval 0 9 v0 rfl rfl) h0;refine(yacm s W (yaeo hL).1 (yaeo hL).2.1 (yaeo hL).2.2).mono fun e W' ⟨he,hb⟩=>?_
 subst he;exact⟨_,rfl,zg2 laidOut_pcan (by kernel_rfl) rfl rfl Tryz.underlying4 rfl rfl rfl hW' hb⟩
theorem pcan_holds:Rows.PrinterCanonicalSaid:=
 OpenClaim.holds_of_wide 6 Tryz.f6 rfl rfl rfl rfl rfl rfl rfl ⟨rfl,rfl,rfl,rfl,rfl⟩ rfl rfl rfl rfl rfl (by kernel_rfl) qf1 (by kernel_rfl)
  (of_decide_eq_true (by kernel_rfl)) (by unfold Func.isWrapper;first|(rw[if_pos (by decide +kernel)];kernel_rfl)|(rw[if_neg (by decide +kernel)];exact⟨rfl,rfl⟩))
  (fun os started H enc _=>pcan_lifted os started H enc)
theorem pcan_card:Rows.PrinterCanonicalCardSaid:=
 Claim7.holds_tied_plain_at .later [] [.handle,.data,.data] true (true,Rows.printerCanonicalCard.stood.harness.2) true
  pcan_holds (fun _ h=>by cases h) (by kernel_rfl) (fun _ h=>by cases h) printerCanonical_row_tie rfl ⟨rfl,rfl⟩ (by kernel_rfl) rfl
  (fun f fn hf hfn=>by
   obtain rfl:f=6:=qar ((show qab.funcNamed "vetch/vetchlaw10.PrinterCanonical" = some 6 by kernel_rfl).symm.trans hf) |>.symm
   obtain rfl:fn=Tryz.f6:=(qar (qf1.symm.trans hfn)).symm;exact⟨by kernel_rfl,fun j t ht=>by
    rw[Tryz.params6] at ht;rcases j with _|j
    ·have h3:t=9:=by simpa using ht.symm
     subst h3;exact(show qab.wantsStandIn 9=false by kernel_rfl)
    ·simp at ht⟩)
  (by kernel_rfl)
end Go.Proofs.YtmopdlbpkiaoeaaGreatDoor
