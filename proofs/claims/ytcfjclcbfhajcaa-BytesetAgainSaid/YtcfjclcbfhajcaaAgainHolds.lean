/- Proved: the law BytesetAgain returns true for every set, and changes nothing that lay in memory before. No condition. -/
import Derived.Test.YtcfjclcbfhajcaaRows
import Derived.Test.YtcfjclcbfhajcaaAgain
import Derived.Test.YtcfjclcbfhajcaaOpenSet
import Derived.Test.YtcfjclcbfhajcaaLift
namespace Go.Proofs.Ytcfjclcbfhajcaa
open Go.ChangeShapes Go.WideShapes Go.ChangeAt Go.RowKit
theorem own_again : ownKnob Try.prog.godebug = none := by kernel_rfl
theorem laid_again : laidOutB Try.prog = true := by kernel_rfl
set_option maxRecDepth 100000 in
theorem again_lifted (os : Os) (started : os.Started) (H : Type) (enc : TypeId × Value → H) :
    ReturnsInHanded {} Try.checked os 6 .any (Rows.bytesetAgainSpec.pre6 enc Try.prog Try.f6 Rows.bytesetAgainRow.domain false) (Rows.bytesetAgainSpec.post enc Try.prog Try.f6 false true false false) := by
  refine returnsInHanded_of_change (C := Try.checked) own_again started (by kernel_rfl) Try.func6
    (ChangeSpec.witness6 (enc := enc) (C := Try.checked) false ⟨#[], #[.agg #[.int .u64 0, .int .u64 0, .int .u64 0, .int .u64 0]], []⟩ 8 (by kernel_rfl) (by kernel_rfl) (by kernel_rfl) (by kernel_rfl)) ?_
  intro W base args ds gs before hval0 hW hcnd _
  have hval : ∀ (j : Nat) t v, Try.f6.params[j]? = some t → args[j]? = some v → Value.okWide Try.prog W .any base t v := hval0
  have hW' := hW
  obtain ⟨p, q, hA0, hV, rfl, hfz, hnd⟩ := hW
  have hA : DataW.TrodAll enc Try.prog W 0 (fun _ => true) true Try.f6.params.toList args.toList ds p := hA0
  rw [Try.params6] at hA hval
  obtain ⟨v0, d0, rfl, rfl, h0⟩ := trodAll_one hA
  obtain ⟨rfl, rfl⟩ := trodVars_none hV
  obtain ⟨f, rfl⟩ := open_set und_set Try.underlying22 (by kernel_rfl) cells_u64 (hval 0 24 v0 rfl rfl) h0
  refine (again_any f W).mono fun e W' ⟨he, hb⟩ => ?_
  subst he
  exact ⟨_, rfl, post_law laid_again (by kernel_rfl) rfl rfl Try.underlying4 rfl rfl rfl hW' hb⟩
theorem again_holds : Rows.BytesetAgainSaid :=
  OpenClaim.holds_of_wide 6 Try.f6 rfl rfl rfl rfl rfl rfl rfl ⟨rfl, rfl, rfl, rfl, rfl⟩ rfl rfl rfl rfl rfl (by kernel_rfl) Try.func6 (by kernel_rfl)
    (of_decide_eq_true (by kernel_rfl)) (by unfold Func.isWrapper; first | (rw [if_pos (by decide +kernel)]; kernel_rfl) | (rw [if_neg (by decide +kernel)]; exact ⟨rfl, rfl⟩))
    (fun os started H enc _ => again_lifted os started H enc)
end Go.Proofs.Ytcfjclcbfhajcaa
