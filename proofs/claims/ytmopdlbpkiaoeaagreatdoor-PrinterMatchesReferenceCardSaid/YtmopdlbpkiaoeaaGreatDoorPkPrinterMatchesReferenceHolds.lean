/- Proved: the law PrinterMatchesReference returns true for every grammar and every 16-bit number, where the two listed variables (vetch/lexer.signs, vetch/printer.signs) hold what the program's text lays in them; it changes nothing that lay in memory before. No further condition. -/
import Derived.Test.YtmopdlbpkiaoeaaGreatDoorTie
import Derived.Test.YtmopdlbpkiaoeaaGreatDoorCards
import Derived.SevenTiedAt
import Derived.ChangeMaps5
import Derived.Test.YtmopdlbpkiaoeaaGreatDoorPkLO
import Derived.Test.YtmopdlbpkiaoeaaGreatDoorPkGO
import Derived.Test.YtmopdlbpkiaoeaaGreatDoorPkL1
import Derived.Test.YtmopdlbpkiaoeaaGreatDoorPkLift
set_option maxRecDepth 100000
set_option maxHeartbeats 200000
namespace Go.Proofs.YtmopdlbpkiaoeaaGreatDoor
open Go.ChangeShapes Go.WideShapes Go.ChangeAt Go.RowKit Go.ChangeMaps
theorem laidOut_pmat:laidOutB Tryz.prog=true:=by kernel_rfl
theorem pmat_lifted (os:Os)(started:os.Started)(H:Type)(enc:TypeId × Value->H) :
  ReturnsInHanded {} Tryz.checked os 3 .any (fun w args=>(Rows.printerMatchesReferenceSpec.pre enc Tryz.prog Tryz.f3 [] false w args/\laidMetH Tryz.prog z9k w)/\sizedMet enc Tryz.prog Tryz.f3 (OpenSpec.ofChange Rows.printerMatchesReferenceSpec) false w args)
   (Rows.printerMatchesReferenceSpec.post enc Tryz.prog Tryz.f3 false true false false):=by
 refine returnsInHanded_of_change_and (C:=Tryz.checked) (X:=fun w _=>laidMetH Tryz.prog z9k w) (fun _ _ _ hh h=>h.of_heap hh) own started (by kernel_rfl) Tryz.func3
  (ChangeSpec.witness_at (enc:=enc) (C:=Tryz.checked) (os:=os) (X:=fun w _=>laidMetH Tryz.prog z9k w) false (z9i os) #[.agg #[.slice none 0 0,.slice none 0 0],.int .u16 0] 8 rfl (by kernel_rfl) (by kernel_rfl) (by kernel_rfl) (by kernel_rfl) (by kernel_rfl) (z9j os _)) ?_
 intro W base args ds gs before hval0 hW _ _ hL _;have hval:∀(j:Nat) t v,Tryz.f3.params[j]?=some t->args[j]?=some v->Value.okWide Tryz.prog W .any base t v:=hval0;have hW':=hW;obtain⟨p,q,hA0,hV,rfl,hfz,hnd⟩:=hW;have hA:DataW.TrodAll enc Tryz.prog W 0 (fun _=>true) true Tryz.f3.params.toList args.toList ds p:=hA0;rw[Tryz.params3] at hA hval;obtain⟨v0,v1,d0,d1,p0,p1,rfl,rfl,rfl,h0,h1⟩:=trodAll_two hA;obtain⟨rfl,rfl⟩:=trodVars_none hV;obtain⟨rv0,nv0,rs0,ns0,rfl,hr0,hn0,hw0,-⟩:=z9y (hval 0 25 v0 rfl rfl) h0;obtain⟨c,rfl,-,-,wc⟩:=open_int Tryz.underlying26 (hval 1 26 v1 rfl rfl) h1;obtain⟨a,rfl⟩:∃a:Nat,c=(a:Int):=⟨c.toNat,by have:=(yafo wc).1;omega⟩;have ha:=(yafo wc).2;refine(yadf rv0 nv0 rs0 ns0 W (yabk hL).1 (yabk hL).2 hr0 hn0 hw0 a (by omega)).mono fun e W' ⟨he,hb⟩=>?_
 subst he;exact⟨_,rfl,zg2 laidOut_pmat (by kernel_rfl) rfl rfl Tryz.underlying4 rfl rfl rfl hW' hb⟩
theorem pmat_holds:Rows.PrinterMatchesReferenceSaid:=
 OpenClaim.holds_of_wide 3 Tryz.f3 rfl rfl rfl rfl rfl rfl rfl ⟨rfl,rfl,rfl,rfl,rfl⟩ rfl rfl rfl rfl rfl (by kernel_rfl) Tryz.func3 (by kernel_rfl)
  (of_decide_eq_true (by kernel_rfl)) (by unfold Func.isWrapper;first|(rw[if_pos (by decide +kernel)];kernel_rfl)|(rw[if_neg (by decide +kernel)];exact⟨rfl,rfl⟩))
  (fun os started H enc _=>pmat_lifted os started H enc)
theorem pmat_card:Rows.PrinterMatchesReferenceCardSaid:=
 Claim7.holds_tied_plain_at .later [] [.data,.data] true (true,Rows.printerMatchesReferenceCard.stood.harness.2) true
  pmat_holds (fun _ h=>by cases h) (by kernel_rfl) (fun _ h=>by cases h) printerMatchesReference_row_tie rfl ⟨rfl,rfl⟩ (by kernel_rfl) rfl
  (fun f fn hf hfn=>by
   obtain rfl:f=3:=Option.some.inj ((show Tryz.prog.funcNamed "vetch/vetchlaw10.PrinterMatchesReference" = some 3 by kernel_rfl).symm.trans hf) |>.symm
   obtain rfl:fn=Tryz.f3:=(Option.some.inj (Tryz.func3.symm.trans hfn)).symm;exact⟨by kernel_rfl,fun j t ht=>by
    rw[Tryz.params3] at ht;rcases j with _|_|j
    ·have h3:t=25:=by simpa using ht.symm
     subst h3;exact(show Tryz.prog.wantsStandIn 25=false by kernel_rfl)
    ·have h3:t=26:=by simpa using ht.symm
     subst h3;exact(show Tryz.prog.wantsStandIn 26=false by kernel_rfl)
    ·simp at ht⟩)
  (by kernel_rfl)
end Go.Proofs.YtmopdlbpkiaoeaaGreatDoor
