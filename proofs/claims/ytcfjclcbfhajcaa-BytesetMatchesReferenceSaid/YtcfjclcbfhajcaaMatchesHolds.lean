/- Proved: the law BytesetMatchesReference returns true for every set and every byte, and changes nothing that lay in memory before. No condition. -/
import Derived.Test.YtcfjclcbfhajcaaRows
import Derived.Test.YtcfjclcbfhajcaaMatches
import Derived.Test.YtcfjclcbfhajcaaOpenBytes
import Derived.Test.YtcfjclcbfhajcaaOpenSet
import Derived.Test.YtcfjclcbfhajcaaLift
namespace Go.Proofs.Ytcfjclcbfhajcaa
open Go.ChangeShapes Go.WideShapes Go.ChangeAt Go.RowKit
theorem own_matches : ownKnob Try.prog.godebug = none := by kernel_rfl
theorem laid_matches : laidOutB Try.prog = true := by kernel_rfl
set_option maxRecDepth 100000 in
theorem matches_lifted (os : Os) (started : os.Started) (H : Type) (enc : TypeId × Value → H) :
    ReturnsInHanded {} Try.checked os 3 .any (Rows.bytesetMatchesReferenceSpec.pre6 enc Try.prog Try.f3 Rows.bytesetMatchesReferenceRow.domain false) (Rows.bytesetMatchesReferenceSpec.post enc Try.prog Try.f3 false true false false) := by
  refine returnsInHanded_of_change (C := Try.checked) own_matches started (by kernel_rfl) Try.func3
    (ChangeSpec.witness6 (enc := enc) (C := Try.checked) false ⟨#[], #[.agg #[.int .u64 0, .int .u64 0, .int .u64 0, .int .u64 0], .int .u8 0], []⟩ 8 (by kernel_rfl) (by kernel_rfl) (by kernel_rfl) (by kernel_rfl)) ?_
  intro W base args ds gs before hval0 hW hcnd _
  have hval : ∀ (j : Nat) t v, Try.f3.params[j]? = some t → args[j]? = some v → Value.okWide Try.prog W .any base t v := hval0
  have hW' := hW
  obtain ⟨p, q, hA0, hV, rfl, hfz, hnd⟩ := hW
  have hA : DataW.TrodAll enc Try.prog W 0 (fun _ => true) true Try.f3.params.toList args.toList ds p := hA0
  rw [Try.params3] at hA hval
  obtain ⟨v0, v1, d0, d1, p0, p1, rfl, rfl, rfl, h0, h1⟩ := trodAll_two hA
  obtain ⟨rfl, rfl⟩ := trodVars_none hV
  obtain ⟨f, rfl⟩ := open_set und_set Try.underlying22 (by kernel_rfl) cells_u64 (hval 0 24 v0 rfl rfl) h0
  obtain ⟨c, rfl, -, -, wa⟩ := open_int Try.underlying5 (hval 1 5 v1 rfl rfl) h1
  obtain ⟨hc0, hc1⟩ := wf_u8 wa
  obtain ⟨k, rfl⟩ := Int.eq_ofNat_of_zero_le hc0
  refine (matches_any f k (by omega) W).mono fun e W' ⟨he, hb⟩ => ?_
  subst he
  exact ⟨_, rfl, post_law laid_matches (by kernel_rfl) rfl rfl Try.underlying4 rfl rfl rfl hW' hb⟩
theorem matches_holds : Rows.BytesetMatchesReferenceSaid :=
  OpenClaim.holds_of_wide 3 Try.f3 rfl rfl rfl rfl rfl rfl rfl ⟨rfl, rfl, rfl, rfl, rfl⟩ rfl rfl rfl rfl rfl (by kernel_rfl) Try.func3 (by kernel_rfl)
    (of_decide_eq_true (by kernel_rfl)) (by unfold Func.isWrapper; first | (rw [if_pos (by decide +kernel)]; kernel_rfl) | (rw [if_neg (by decide +kernel)]; exact ⟨rfl, rfl⟩))
    (fun os started H enc _ => matches_lifted os started H enc)
end Go.Proofs.Ytcfjclcbfhajcaa
