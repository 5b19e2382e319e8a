/- Proved: the law ResolveGrammars returns true for every string, where the two listed variables (errors.errorType, vetch/lexer.signs) hold what the program's text lays in them; it changes nothing that lay in memory before. No further condition. -/
import Derived.Test.YtnmflokhnaiiiaaGreatDoorTie
import Derived.Test.YtnmflokhnaiiiaaGreatDoorCards
import Derived.SevenTiedAt
import Derived.ChangeMaps5
import Derived.Test.YtnmflokhnaiiiaaGreatDoorPkLexLaidOf
import Derived.Test.YtnmflokhnaiiiaaGreatDoorPkRF
import Derived.Test.YtnmflokhnaiiiaaGreatDoorPkLift
import Derived.Test.YtnmflokhnaiiiaaGreatDoorPkResLaw3
set_option maxRecDepth 100000
set_option maxHeartbeats 200000
namespace Go.Proofs.YtnmflokhnaiiiaaGreatDoor
open Go.ChangeShapes Go.WideShapes Go.ChangeAt Go.RowKit Go.ChangeMaps
theorem laidOut_resGrammars:laidOutB Tryz.prog=true:=by kernel_rfl
theorem resGrammars_lifted (os:Os)(started:os.Started)(H:Type)(enc:TypeId × Value->H) :
  ReturnsInHanded {} Tryz.checked os 5 .any (fun w args=>(Rows.resolveGrammarsSpec.pre enc Tryz.prog Tryz.f5 [] false w args/\laidMetH Tryz.prog laidL w)/\sizedMet enc Tryz.prog Tryz.f5 (OpenSpec.ofChange Rows.resolveGrammarsSpec) false w args)
   (Rows.resolveGrammarsSpec.post enc Tryz.prog Tryz.f5 false true false false):=by
 refine returnsInHanded_of_change_and (C:=Tryz.checked) (X:=fun w _=>laidMetH Tryz.prog laidL w) (fun _ _ _ hh h=>h.of_heap hh) own started (by kernel_rfl) Tryz.func5
  (ChangeSpec.witness_at (enc:=enc) (C:=Tryz.checked) (os:=os) (X:=fun w _=>laidMetH Tryz.prog laidL w) false (zce os) #[.string ⟨#[]⟩] 8 rfl (by kernel_rfl) (by kernel_rfl) (by kernel_rfl) (by kernel_rfl) (by kernel_rfl) (zct os _)) ?_
 intro W base args ds gs before hval0 hW _ _ hL _;have hval:∀(j:Nat) t v,Tryz.f5.params[j]?=some t->args[j]?=some v->Value.okWide Tryz.prog W .any base t v:=hval0;have hW':=hW;obtain⟨p,q,hA0,hV,rfl,hfz,hnd⟩:=hW;have hA:DataW.TrodAll enc Tryz.prog W 0 (fun _=>true) true Tryz.f5.params.toList args.toList ds p:=hA0;rw[Tryz.params5] at hA hval;obtain⟨v0,d0,rfl,rfl,h0⟩:=trodAll_one hA;obtain⟨rfl,rfl⟩:=trodVars_none hV;obtain⟨s,rfl,-,-,ws0⟩:=open_string Tryz.underlying9 (hval 0 9 v0 rfl rfl) h0;refine(z1x zef s W (zed hL)).mono fun e W' ⟨he,hb⟩=>?_
 subst he;exact⟨_,rfl,zg2 laidOut_resGrammars (by kernel_rfl) rfl rfl Tryz.underlying4 rfl rfl rfl hW' hb⟩
theorem resGrammars_holds:Rows.ResolveGrammarsSaid:=
 OpenClaim.holds_of_wide 5 Tryz.f5 rfl rfl rfl rfl rfl rfl rfl ⟨rfl,rfl,rfl,rfl,rfl⟩ rfl rfl rfl rfl rfl (by kernel_rfl) Tryz.func5 (by kernel_rfl)
  (of_decide_eq_true (by kernel_rfl)) (by unfold Func.isWrapper;first|(rw[if_pos (by decide +kernel)];kernel_rfl)|(rw[if_neg (by decide +kernel)];exact⟨rfl,rfl⟩))
  (fun os started H enc _=>resGrammars_lifted os started H enc)
theorem resGrammars_card:Rows.ResolveGrammarsCardSaid:=
 Claim7.holds_tied_plain_at .later [] [.handle,.data] true (true,Rows.resolveGrammarsCard.stood.harness.2) true
  resGrammars_holds (fun _ h=>by cases h) (by kernel_rfl) (fun _ h=>by cases h) resolveGrammars_row_tie rfl ⟨rfl,rfl⟩ (by kernel_rfl) rfl
  (fun f fn hf hfn=>by
   obtain rfl:f=5:=Option.some.inj ((show Tryz.prog.funcNamed "vetch/vetchlaw09.ResolveGrammars" = some 5 by kernel_rfl).symm.trans hf) |>.symm
   obtain rfl:fn=Tryz.f5:=(Option.some.inj (Tryz.func5.symm.trans hfn)).symm;exact⟨by kernel_rfl,fun j t ht=>by
    rw[Tryz.params5] at ht;rcases j with _|j
    ·have h3:t=9:=by simpa using ht.symm
     subst h3;exact(show Tryz.prog.wantsStandIn 9=false by kernel_rfl)
    ·simp at ht⟩)
  (by kernel_rfl)
end Go.Proofs.YtnmflokhnaiiiaaGreatDoor
