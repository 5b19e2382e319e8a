/- Proved: the law BytesetLaws returns true for every three sets, and changes nothing that lay in memory before. No condition. -/
import Derived.Test.YtcfjclcbfhajcaaRows
import Derived.Test.YtcfjclcbfhajcaaLaws
import Derived.Test.YtcfjclcbfhajcaaOpenSet
import Derived.Test.YtcfjclcbfhajcaaLift
namespace Go.Proofs.Ytcfjclcbfhajcaa
open Go.ChangeShapes Go.WideShapes Go.ChangeAt Go.RowKit
theorem own_laws : ownKnob Try.prog.godebug = none := by kernel_rfl
theorem laid_laws : laidOutB Try.prog = true := by kernel_rfl
set_option maxRecDepth 100000 in
theorem laws_lifted (os : Os) (started : os.Started) (H : Type) (enc : TypeId × Value → H) :
    ReturnsInHanded {} Try.checked os 7 .any (Rows.bytesetLawsSpec.pre6 enc Try.prog Try.f7 Rows.bytesetLawsRow.domain false) (Rows.bytesetLawsSpec.post enc Try.prog Try.f7 false true false false) := by
  refine returnsInHanded_of_change (C := Try.checked) own_laws started (by kernel_rfl) Try.func7
    (ChangeSpec.witness6 (enc := enc) (C := Try.checked) false ⟨#[], #[.agg #[.int .u64 0, .int .u64 0, .int .u64 0, .int .u64 0], .agg #[.int .u64 0, .int .u64 0, .int .u64 0, .int .u64 0], .agg #[.int .u64 0, .int .u64 0, .int .u64 0, .int .u64 0]], []⟩ 8 (by kernel_rfl) (by kernel_rfl) (by kernel_rfl) (by kernel_rfl)) ?_
  intro W base args ds gs before hval0 hW hcnd _
  have hval : ∀ (j : Nat) t v, Try.f7.params[j]? = some t → args[j]? = some v → Value.okWide Try.prog W .any base t v := hval0
  have hW' := hW
  obtain ⟨p, q, hA0, hV, rfl, hfz, hnd⟩ := hW
  have hA : DataW.TrodAll enc Try.prog W 0 (fun _ => true) true Try.f7.params.toList args.toList ds p := hA0
  rw [Try.params7] at hA hval
  obtain ⟨v0, v1, v2, d0, d1, d2, p0, p1, p2, rfl, rfl, rfl, h0, h1, h2⟩ := trodAll_three hA
  obtain ⟨rfl, rfl⟩ := trodVars_none hV
  obtain ⟨f, rfl⟩ := open_set und_set Try.underlying22 (by kernel_rfl) cells_u64 (hval 0 24 v0 rfl rfl) h0
  obtain ⟨g, rfl⟩ := open_set und_set Try.underlying22 (by kernel_rfl) cells_u64 (hval 1 24 v1 rfl rfl) h1
  obtain ⟨h, rfl⟩ := open_set und_set Try.underlying22 (by kernel_rfl) cells_u64 (hval 2 24 v2 rfl rfl) h2
  refine (laws_any f g h W).mono fun e W' ⟨he, hb⟩ => ?_
  subst he
  exact ⟨_, rfl, post_law laid_laws (by kernel_rfl) rfl rfl Try.underlying4 rfl rfl rfl hW' hb⟩
theorem laws_holds : Rows.BytesetLawsSaid :=
  OpenClaim.holds_of_wide 7 Try.f7 rfl rfl rfl rfl rfl rfl rfl ⟨rfl, rfl, rfl, rfl, rfl⟩ rfl rfl rfl rfl rfl (by kernel_rfl) Try.func7 (by kernel_rfl)
    (of_decide_eq_true (by kernel_rfl)) (by unfold Func.isWrapper; first | (rw [if_pos (by decide +kernel)]; kernel_rfl) | (rw [if_neg (by decide +kernel)]; exact ⟨rfl, rfl⟩))
    (fun os started H enc _ => laws_lifted os started H enc)
end Go.Proofs.Ytcfjclcbfhajcaa
