/- Proved: the law EscapePlain returns true for every byte and every bool, and changes nothing that lay in memory before. No condition. -/
import Derived.Test.YtlcaclemogamdaaRows
import Derived.Test.YtlcaclemogamdaaOpenBytes3
import Derived.Test.YtlcaclemogamdaaAwake3
import Derived.Test.YtlcaclemogamdaaLift
import Derived.ChangeMaps5
namespace Go.Proofs.Ytlcaclemogamdaa
open Go.ChangeShapes Go.WideShapes Go.ChangeAt Go.RowKit Go.ChangeMaps
theorem own_plain : ownKnob Try.prog.godebug = none := by kernel_rfl
theorem laid_plain : laidOutB Try.prog = true := by kernel_rfl
set_option maxRecDepth 100000 in
theorem plain_lifted (os : Os) (started : os.Started) (H : Type) (enc : TypeId × Value → H) :
    ReturnsInHanded {} Try.checked os 7 .any (Rows.escapePlainSpec.pre6 enc Try.prog Try.f7 Rows.escapePlainRow.domain false) (Rows.escapePlainSpec.post enc Try.prog Try.f7 false true false false) := by
  refine returnsInHanded_of_change (C := Try.checked) own_plain started (by kernel_rfl) Try.func7
    (ChangeSpec.witness6 (enc := enc) (C := Try.checked) false ⟨#[], #[.int .u8 0, .bool false], []⟩ 8 (by kernel_rfl) (by kernel_rfl) (by kernel_rfl) (by kernel_rfl)) ?_
  intro W base args ds gs before hval0 hW hcnd _
  have hval : ∀ (j : Nat) t v, Try.f7.params[j]? = some t → args[j]? = some v → Value.okWide Try.prog W .any base t v := hval0
  have hW' := hW
  obtain ⟨p, q, hA0, hV, rfl, hfz, hnd⟩ := hW
  have hA : DataW.TrodAll enc Try.prog W 0 (fun _ => true) true Try.f7.params.toList args.toList ds p := hA0
  rw [Try.params7] at hA hval
  obtain ⟨v0, v1, d0, d1, p0, p1, rfl, rfl, rfl, h0, h1⟩ := trodAll_two hA
  obtain ⟨rfl, rfl⟩ := trodVars_none hV
  obtain ⟨c, rfl, -, -, wc⟩ := open_int Try.underlying5 (hval 0 5 v0 rfl rfl) h0
  have hc := wf_u8 wc
  obtain ⟨b, rfl, -⟩ := open_bool Try.underlying4 (hval 1 4 v1 rfl rfl) h1
  refine (plain_any awake_at c b W hc.1 (by omega)).mono fun e W' ⟨he, hb⟩ => ?_
  subst he
  exact ⟨_, rfl, post_law laid_plain (by kernel_rfl) rfl rfl Try.underlying4 rfl rfl rfl hW' hb⟩
theorem plain_holds : Rows.EscapePlainSaid :=
  OpenClaim.holds_of_wide 7 Try.f7 rfl rfl rfl rfl rfl rfl rfl ⟨rfl, rfl, rfl, rfl, rfl⟩ rfl rfl rfl rfl rfl (by kernel_rfl) Try.func7 (by kernel_rfl)
    (of_decide_eq_true (by kernel_rfl)) (by unfold Func.isWrapper; first | (rw [if_pos (by decide +kernel)]; kernel_rfl) | (rw [if_neg (by decide +kernel)]; exact ⟨rfl, rfl⟩))
    (fun os started H enc _ => plain_lifted os started H enc)
end Go.Proofs.Ytlcaclemogamdaa
