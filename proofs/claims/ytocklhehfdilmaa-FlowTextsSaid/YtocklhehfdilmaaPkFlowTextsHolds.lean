/- Proved: the law FlowTexts returns true for all facts, and changes nothing that lay in memory before. No condition. -/
import Derived.Test.YtocklhehfdilmaaRows
import Derived.ChangeMaps5
import Derived.Test.YtocklhehfdilmaaPkL
import Derived.Test.YtocklhehfdilmaaPkFlowLaw5
namespace Go.Proofs.Ytocklhehfdilmaa
open Go.ChangeShapes Go.WideShapes Go.ChangeAt Go.RowKit Go.ChangeMaps
theorem own_ftex : ownKnob Try.prog.godebug = none := by kernel_rfl
theorem laid_ftex : laidOutB Try.prog = true := by kernel_rfl
set_option maxRecDepth 100000 in
theorem ftex_lifted (os : Os) (started : os.Started) (H : Type) (enc : TypeId × Value → H) :
    ReturnsInHanded {} Try.checked os 7 .any (Rows.flowTextsSpec.pre6 enc Try.prog Try.f7 Rows.flowTextsRow.domain false) (Rows.flowTextsSpec.post enc Try.prog Try.f7 false true false false) := by
  refine returnsInHanded_of_change (C := Try.checked) own_ftex started (by kernel_rfl) Try.func7
    (ChangeSpec.witness6 (enc := enc) (C := Try.checked) false ⟨#[], #[.agg #[.bool false, .bool false, .bool false], .agg #[.bool false, .bool false, .bool false]], []⟩ 8 (by kernel_rfl) (by kernel_rfl) (by kernel_rfl) (by kernel_rfl)) ?_
  intro W base args ds gs before hval0 hW hcnd _
  have hval : ∀ (j : Nat) t v, Try.f7.params[j]? = some t → args[j]? = some v → Value.okWide Try.prog W .any base t v := hval0
  have hW' := hW
  obtain ⟨p, q, hA0, hV, rfl, hfz, hnd⟩ := hW
  have hA : DataW.TrodAll enc Try.prog W 0 (fun _ => true) true Try.f7.params.toList args.toList ds p := hA0
  rw [Try.params7] at hA hval
  obtain ⟨v0, v1, d0, d1, p0, p1, rfl, rfl, rfl, h0, h1⟩ := trodAll_two hA
  obtain ⟨rfl, rfl⟩ := trodVars_none hV
  obtain ⟨f0, rfl⟩ := open_fact (hval 0 35 v0 rfl rfl) h0
  obtain ⟨f1, rfl⟩ := open_fact (hval 1 35 v1 rfl rfl) h1
  refine (law11_texts f0 f1 W).mono fun e W' ⟨he, hb⟩ => ?_
  subst he
  exact ⟨_, rfl, post_law laid_ftex (by kernel_rfl) rfl rfl Try.underlying4 rfl rfl rfl hW' hb⟩
theorem ftex_holds : Rows.FlowTextsSaid :=
  OpenClaim.holds_of_wide 7 Try.f7 rfl rfl rfl rfl rfl rfl rfl ⟨rfl, rfl, rfl, rfl, rfl⟩ rfl rfl rfl rfl rfl (by kernel_rfl) Try.func7 (by kernel_rfl)
    (of_decide_eq_true (by kernel_rfl)) (by unfold Func.isWrapper; first | (rw [if_pos (by decide +kernel)]; kernel_rfl) | (rw [if_neg (by decide +kernel)]; exact ⟨rfl, rfl⟩))
    (fun os started H enc _ => ftex_lifted os started H enc)
end Go.Proofs.Ytocklhehfdilmaa
