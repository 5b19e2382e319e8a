/- Proved: the law FlowRises returns true for every grammar and all lists of facts, and changes nothing that lay in memory before. No condition. -/
import Derived.Test.YtocklhehfdilmaaRows
import Derived.ChangeMaps5
import Derived.Test.YtocklhehfdilmaaPkL
import Derived.Test.YtocklhehfdilmaaPkFlowLaw4
namespace Go.Proofs.Ytocklhehfdilmaa
open Go.ChangeShapes Go.WideShapes Go.ChangeAt Go.RowKit Go.ChangeMaps
theorem own_fris : ownKnob Try.prog.godebug = none := by kernel_rfl
theorem laid_fris : laidOutB Try.prog = true := by kernel_rfl
set_option maxRecDepth 100000 in
theorem fris_lifted (os : Os) (started : os.Started) (H : Type) (enc : TypeId × Value → H) :
    ReturnsInHanded {} Try.checked os 6 .any (Rows.flowRisesSpec.pre6 enc Try.prog Try.f6 Rows.flowRisesRow.domain false) (Rows.flowRisesSpec.post enc Try.prog Try.f6 false true false false) := by
  refine returnsInHanded_of_change (C := Try.checked) own_fris started (by kernel_rfl) Try.func6
    (ChangeSpec.witness6 (enc := enc) (C := Try.checked) false ⟨#[], #[.agg #[.slice none 0 0, .slice none 0 0], .slice none 0 0, .slice none 0 0], []⟩ 8 (by kernel_rfl) (by kernel_rfl) (by kernel_rfl) (by kernel_rfl)) ?_
  intro W base args ds gs before hval0 hW hcnd _
  have hval : ∀ (j : Nat) t v, Try.f6.params[j]? = some t → args[j]? = some v → Value.okWide Try.prog W .any base t v := hval0
  have hW' := hW
  obtain ⟨p, q, hA0, hV, rfl, hfz, hnd⟩ := hW
  have hA : DataW.TrodAll enc Try.prog W 0 (fun _ => true) true Try.f6.params.toList args.toList ds p := hA0
  rw [Try.params6] at hA hval
  obtain ⟨v0, v1, v2, d0, d1, d2, p0, p1, p2, rfl, rfl, rfl, h0, h1, h2⟩ := trodAll_three hA
  obtain ⟨rfl, rfl⟩ := trodVars_none hV
  obtain ⟨rv0, nv0, rs0, ns0, rfl, hr0, hn0⟩ := open_grammar (hval 0 25 v0 rfl rfl) h0
  obtain ⟨l1, hl1⟩ := open_factsS (hval 1 28 v1 rfl rfl) h1
  obtain ⟨l2, hl2⟩ := open_factsS (hval 2 28 v2 rfl rfl) h2
  refine (law11_rises rv0 nv0 v1 v2 rs0 ns0 l1 l2 W hr0 hn0 hl1 hl2).mono fun e W' ⟨he, hb⟩ => ?_
  subst he
  exact ⟨_, rfl, post_law laid_fris (by kernel_rfl) rfl rfl Try.underlying4 rfl rfl rfl hW' hb⟩
theorem fris_holds : Rows.FlowRisesSaid :=
  OpenClaim.holds_of_wide 6 Try.f6 rfl rfl rfl rfl rfl rfl rfl ⟨rfl, rfl, rfl, rfl, rfl⟩ rfl rfl rfl rfl rfl (by kernel_rfl) Try.func6 (by kernel_rfl)
    (of_decide_eq_true (by kernel_rfl)) (by unfold Func.isWrapper; first | (rw [if_pos (by decide +kernel)]; kernel_rfl) | (rw [if_neg (by decide +kernel)]; exact ⟨rfl, rfl⟩))
    (fun os started H enc _ => fris_lifted os started H enc)
end Go.Proofs.Ytocklhehfdilmaa
