/- Proved: the law EscapeInverse returns true for every byte, every bool and every string, and changes nothing that lay in memory before. No condition. -/
import Derived.Test.YtlcaclemogamdaaRows
import Derived.Test.YtlcaclemogamdaaOpenBytes3
import Derived.Test.YtlcaclemogamdaaLitLaws
import Derived.Test.YtlcaclemogamdaaLift
import Derived.ChangeMaps5
namespace Go.Proofs.Ytlcaclemogamdaa
open Go.ChangeShapes Go.WideShapes Go.ChangeAt Go.RowKit Go.ChangeMaps
theorem own_inverse : ownKnob Try.prog.godebug = none := by kernel_rfl
theorem laid_inverse : laidOutB Try.prog = true := by kernel_rfl
set_option maxRecDepth 100000 in
theorem inverse_lifted (os : Os) (started : os.Started) (H : Type) (enc : TypeId × Value → H) :
    ReturnsInHanded {} Try.checked os 4 .any (Rows.escapeInverseSpec.pre6 enc Try.prog Try.f4 Rows.escapeInverseRow.domain false) (Rows.escapeInverseSpec.post enc Try.prog Try.f4 false true false false) := by
  refine returnsInHanded_of_change (C := Try.checked) own_inverse started (by kernel_rfl) Try.func4
    (ChangeSpec.witness6 (enc := enc) (C := Try.checked) false ⟨#[], #[.int .u8 0, .bool false, .string ⟨#[]⟩], []⟩ 8 (by kernel_rfl) (by kernel_rfl) (by kernel_rfl) (by kernel_rfl)) ?_
  intro W base args ds gs before hval0 hW hcnd _
  have hval : ∀ (j : Nat) t v, Try.f4.params[j]? = some t → args[j]? = some v → Value.okWide Try.prog W .any base t v := hval0
  have hW' := hW
  obtain ⟨p, q, hA0, hV, rfl, hfz, hnd⟩ := hW
  have hA : DataW.TrodAll enc Try.prog W 0 (fun _ => true) true Try.f4.params.toList args.toList ds p := hA0
  rw [Try.params4] at hA hval
  obtain ⟨v0, v1, v2, d0, d1, d2, p0, p1, p2, rfl, rfl, rfl, h0, h1, h2⟩ := trodAll_three hA
  obtain ⟨rfl, rfl⟩ := trodVars_none hV
  obtain ⟨c, rfl, -, -, wc⟩ := open_int Try.underlying5 (hval 0 5 v0 rfl rfl) h0
  have hc := wf_u8 wc
  obtain ⟨b, rfl, -⟩ := open_bool Try.underlying4 (hval 1 4 v1 rfl rfl) h1
  obtain ⟨s, rfl, -, -, ws⟩ := open_string Try.underlying9 (hval 2 9 v2 rfl rfl) h2
  refine (inverse_any awake_at c b s W hc.1 (by omega) (by unfold maxLen at ws; omega)).mono fun e W' ⟨he, hb⟩ => ?_
  subst he
  exact ⟨_, rfl, post_law laid_inverse (by kernel_rfl) rfl rfl Try.underlying4 rfl rfl rfl hW' hb⟩
theorem inverse_holds : Rows.EscapeInverseSaid :=
  OpenClaim.holds_of_wide 4 Try.f4 rfl rfl rfl rfl rfl rfl rfl ⟨rfl, rfl, rfl, rfl, rfl⟩ rfl rfl rfl rfl rfl (by kernel_rfl) Try.func4 (by kernel_rfl)
    (of_decide_eq_true (by kernel_rfl)) (by unfold Func.isWrapper; first | (rw [if_pos (by decide +kernel)]; kernel_rfl) | (rw [if_neg (by decide +kernel)]; exact ⟨rfl, rfl⟩))
    (fun os started H enc _ => inverse_lifted os started H enc)
end Go.Proofs.Ytlcaclemogamdaa
