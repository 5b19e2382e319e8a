/- Proved: the law BytesetMakes returns true for every slice of bytes and every two bytes, and changes nothing that lay in memory before. No condition. -/
import Derived.Test.YtcfjclcbfhajcaaRows
import Derived.Test.YtcfjclcbfhajcaaMakes
import Derived.Test.YtcfjclcbfhajcaaOpenBytes
import Derived.Test.YtcfjclcbfhajcaaLift
namespace Go.Proofs.Ytcfjclcbfhajcaa
open Go.ChangeShapes Go.WideShapes Go.ChangeAt Go.RowKit
theorem own_makes : ownKnob Try.prog.godebug = none := by kernel_rfl
theorem laid_makes : laidOutB Try.prog = true := by kernel_rfl
set_option maxRecDepth 100000 in
theorem makes_lifted (os : Os) (started : os.Started) (H : Type) (enc : TypeId × Value → H) :
    ReturnsInHanded {} Try.checked os 4 .any (Rows.bytesetMakesSpec.pre6 enc Try.prog Try.f4 Rows.bytesetMakesRow.domain false) (Rows.bytesetMakesSpec.post enc Try.prog Try.f4 false true false false) := by
  refine returnsInHanded_of_change (C := Try.checked) own_makes started (by kernel_rfl) Try.func4
    (ChangeSpec.witness6 (enc := enc) (C := Try.checked) false ⟨#[], #[.slice none 0 0, .int .u8 0, .int .u8 0], []⟩ 8 (by kernel_rfl) (by kernel_rfl) (by kernel_rfl) (by kernel_rfl)) ?_
  intro W base args ds gs before hval0 hW hcnd _
  have hval : ∀ (j : Nat) t v, Try.f4.params[j]? = some t → args[j]? = some v → Value.okWide Try.prog W .any base t v := hval0
  have hW' := hW
  obtain ⟨p, q, hA0, hV, rfl, hfz, hnd⟩ := hW
  have hA : DataW.TrodAll enc Try.prog W 0 (fun _ => true) true Try.f4.params.toList args.toList ds p := hA0
  rw [Try.params4] at hA hval
  obtain ⟨v0, v1, v2, d0, d1, d2, p0, p1, p2, rfl, rfl, rfl, h0, h1, h2⟩ := trodAll_three hA
  obtain ⟨rfl, rfl⟩ := trodVars_none hV
  obtain ⟨l, hl, hl1, hl2⟩ := open_bytes Try.underlying27 Try.underlying5 (by kernel_rfl) (hval 0 27 v0 rfl rfl) h0
  obtain ⟨lo, rfl, -, -, wa⟩ := open_int Try.underlying5 (hval 1 5 v1 rfl rfl) h1
  obtain ⟨hi, rfl, -, -, wb⟩ := open_int Try.underlying5 (hval 2 5 v2 rfl rfl) h2
  refine (makes_any l v0 lo hi W hl hl1 hl2 (wf_u8 wa).1 (wf_u8 wa).2 (wf_u8 wb).1 (wf_u8 wb).2).mono fun e W' ⟨he, hb⟩ => ?_
  subst he
  exact ⟨_, rfl, post_law laid_makes (by kernel_rfl) rfl rfl Try.underlying4 rfl rfl rfl hW' hb⟩
theorem makes_holds : Rows.BytesetMakesSaid :=
  OpenClaim.holds_of_wide 4 Try.f4 rfl rfl rfl rfl rfl rfl rfl ⟨rfl, rfl, rfl, rfl, rfl⟩ rfl rfl rfl rfl rfl (by kernel_rfl) Try.func4 (by kernel_rfl)
    (of_decide_eq_true (by kernel_rfl)) (by unfold Func.isWrapper; first | (rw [if_pos (by decide +kernel)]; kernel_rfl) | (rw [if_neg (by decide +kernel)]; exact ⟨rfl, rfl⟩))
    (fun os started H enc _ => makes_lifted os started H enc)
end Go.Proofs.Ytcfjclcbfhajcaa
