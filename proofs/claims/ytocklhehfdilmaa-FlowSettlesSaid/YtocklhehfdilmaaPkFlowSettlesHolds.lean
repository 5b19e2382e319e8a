/- Proved: the law FlowSettles returns true for every grammar, and changes nothing that lay in memory before. No condition. -/
import Derived.Test.YtocklhehfdilmaaRows
import Derived.ChangeMaps5
import Derived.Test.YtocklhehfdilmaaPkL
import Derived.Test.YtocklhehfdilmaaPkFlowLaw3
namespace Go.Proofs.Ytocklhehfdilmaa
open Go.ChangeShapes Go.WideShapes Go.ChangeAt Go.RowKit Go.ChangeMaps
theorem own_fset : ownKnob Try.prog.godebug = none := by kernel_rfl
theorem laid_fset : laidOutB Try.prog = true := by kernel_rfl
set_option maxRecDepth 100000 in
theorem fset_lifted (os : Os) (started : os.Started) (H : Type) (enc : TypeId × Value → H) :
    ReturnsInHanded {} Try.checked os 5 .any (Rows.flowSettlesSpec.pre6 enc Try.prog Try.f5 Rows.flowSettlesRow.domain false) (Rows.flowSettlesSpec.post enc Try.prog Try.f5 false true false false) := by
  refine returnsInHanded_of_change (C := Try.checked) own_fset started (by kernel_rfl) Try.func5
    (ChangeSpec.witness6 (enc := enc) (C := Try.checked) false ⟨#[], #[.agg #[.slice none 0 0, .slice none 0 0]], []⟩ 8 (by kernel_rfl) (by kernel_rfl) (by kernel_rfl) (by kernel_rfl)) ?_
  intro W base args ds gs before hval0 hW hcnd _
  have hval : ∀ (j : Nat) t v, Try.f5.params[j]? = some t → args[j]? = some v → Value.okWide Try.prog W .any base t v := hval0
  have hW' := hW
  obtain ⟨p, q, hA0, hV, rfl, hfz, hnd⟩ := hW
  have hA : DataW.TrodAll enc Try.prog W 0 (fun _ => true) true Try.f5.params.toList args.toList ds p := hA0
  rw [Try.params5] at hA hval
  obtain ⟨v0, d0, rfl, rfl, h0⟩ := trodAll_one hA
  obtain ⟨rfl, rfl⟩ := trodVars_none hV
  obtain ⟨rv0, nv0, rs0, ns0, rfl, hr0, hn0⟩ := open_grammar (hval 0 25 v0 rfl rfl) h0
  refine (law11_settles rv0 nv0 rs0 ns0 W hr0 hn0).mono fun e W' ⟨he, hb⟩ => ?_
  subst he
  exact ⟨_, rfl, post_law laid_fset (by kernel_rfl) rfl rfl Try.underlying4 rfl rfl rfl hW' hb⟩
theorem fset_holds : Rows.FlowSettlesSaid :=
  OpenClaim.holds_of_wide 5 Try.f5 rfl rfl rfl rfl rfl rfl rfl ⟨rfl, rfl, rfl, rfl, rfl⟩ rfl rfl rfl rfl rfl (by kernel_rfl) Try.func5 (by kernel_rfl)
    (of_decide_eq_true (by kernel_rfl)) (by unfold Func.isWrapper; first | (rw [if_pos (by decide +kernel)]; kernel_rfl) | (rw [if_neg (by decide +kernel)]; exact ⟨rfl, rfl⟩))
    (fun os started H enc _ => fset_lifted os started H enc)
end Go.Proofs.Ytocklhehfdilmaa
