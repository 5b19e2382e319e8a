/- Proved: the law WfLoops returns true for every grammar, and changes nothing that lay in memory before. No condition. -/
import Derived.Test.YtnfjbjmdempafaaRows
import Derived.ChangeMaps5
import Derived.Test.YtnfjbjmdempafaaPkWfLaw1
import Derived.Test.YtnfjbjmdempafaaPkL
import Derived.Test.YtnfjbjmdempafaaPkWfOpen
namespace Go.Proofs.Ytnfjbjmdempafaa
open Go.ChangeShapes Go.WideShapes Go.ChangeAt Go.RowKit Go.ChangeMaps
theorem own_wlps : ownKnob Try.prog.godebug = none := by kernel_rfl
theorem laid_wlps : laidOutB Try.prog = true := by kernel_rfl
set_option maxRecDepth 100000 in
theorem wlps_lifted (os : Os) (started : os.Started) (H : Type) (enc : TypeId × Value → H) :
    ReturnsInHanded {} Try.checked os 3 .any (Rows.wfLoopsSpec.pre6 enc Try.prog Try.f3 Rows.wfLoopsRow.domain false) (Rows.wfLoopsSpec.post enc Try.prog Try.f3 false true false false) := by
  refine returnsInHanded_of_change (C := Try.checked) own_wlps started (by kernel_rfl) Try.func3
    (ChangeSpec.witness6 (enc := enc) (C := Try.checked) false ⟨#[], #[.agg #[.slice none 0 0, .slice none 0 0]], []⟩ 8 (by kernel_rfl) (by kernel_rfl) (by kernel_rfl) (by kernel_rfl)) ?_
  intro W base args ds gs before hval0 hW hcnd _
  have hval : ∀ (j : Nat) t v, Try.f3.params[j]? = some t → args[j]? = some v → Value.okWide Try.prog W .any base t v := hval0
  have hW' := hW
  obtain ⟨p, q, hA0, hV, rfl, hfz, hnd⟩ := hW
  have hA : DataW.TrodAll enc Try.prog W 0 (fun _ => true) true Try.f3.params.toList args.toList ds p := hA0
  rw [Try.params3] at hA hval
  obtain ⟨v0, d0, rfl, rfl, h0⟩ := trodAll_one hA
  obtain ⟨rfl, rfl⟩ := trodVars_none hV
  obtain ⟨rv0, nv0, rs0, ns0, rfl, hr0, hn0, hc0⟩ := open_grammar12 (hval 0 25 v0 rfl rfl) h0
  refine (law12_loops rv0 nv0 rs0 ns0 W hr0 hn0 hc0).mono fun e W' ⟨he, hb⟩ => ?_
  subst he
  exact ⟨_, rfl, post_law laid_wlps (by kernel_rfl) rfl rfl Try.underlying4 rfl rfl rfl hW' hb⟩
theorem wlps_holds : Rows.WfLoopsSaid :=
  OpenClaim.holds_of_wide 3 Try.f3 rfl rfl rfl rfl rfl rfl rfl ⟨rfl, rfl, rfl, rfl, rfl⟩ rfl rfl rfl rfl rfl (by kernel_rfl) Try.func3 (by kernel_rfl)
    (of_decide_eq_true (by kernel_rfl)) (by unfold Func.isWrapper; first | (rw [if_pos (by decide +kernel)]; kernel_rfl) | (rw [if_neg (by decide +kernel)]; exact ⟨rfl, rfl⟩))
    (fun os started H enc _ => wlps_lifted os started H enc)
end Go.Proofs.Ytnfjbjmdempafaa
