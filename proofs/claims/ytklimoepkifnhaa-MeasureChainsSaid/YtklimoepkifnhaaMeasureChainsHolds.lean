/- Proved: the law MeasureChains returns true for every grammar and every byte, and changes nothing that lay in memory before. No condition. -/
import Derived.Test.YtklimoepkifnhaaRows
import Derived.Test.YtklimoepkifnhaaMeasOpen
import Derived.Test.YtklimoepkifnhaaMeasLawChain
import Derived.Test.YtklimoepkifnhaaLift
import Derived.ChangeMaps5
namespace Go.Proofs.Ytklimoepkifnhaa
open Go.ChangeShapes Go.WideShapes Go.ChangeAt Go.RowKit Go.ChangeMaps
theorem own_mcha : ownKnob Try.prog.godebug = none := by kernel_rfl
theorem laid_mcha : laidOutB Try.prog = true := by kernel_rfl
set_option maxRecDepth 100000 in
theorem mcha_lifted (os : Os) (started : os.Started) (H : Type) (enc : TypeId × Value → H) :
    ReturnsInHanded {} Try.checked os 7 .any (Rows.measureChainsSpec.pre6 enc Try.prog Try.f7 Rows.measureChainsRow.domain false) (Rows.measureChainsSpec.post enc Try.prog Try.f7 false true false false) := by
  refine returnsInHanded_of_change (C := Try.checked) own_mcha started (by kernel_rfl) Try.func7
    (ChangeSpec.witness6 (enc := enc) (C := Try.checked) false ⟨#[], #[.agg #[.slice none 0 0, .slice none 0 0], .int .u8 0], []⟩ 8 (by kernel_rfl) (by kernel_rfl) (by kernel_rfl) (by kernel_rfl)) ?_
  intro W base args ds gs before hval0 hW hcnd _
  have hval : ∀ (j : Nat) t v, Try.f7.params[j]? = some t → args[j]? = some v → Value.okWide Try.prog W .any base t v := hval0
  have hW' := hW
  obtain ⟨p, q, hA0, hV, rfl, hfz, hnd⟩ := hW
  have hA : DataW.TrodAll enc Try.prog W 0 (fun _ => true) true Try.f7.params.toList args.toList ds p := hA0
  rw [Try.params7] at hA hval
  obtain ⟨v0, v1, d0, d1, p0, p1, rfl, rfl, rfl, h0, h1⟩ := trodAll_two hA
  obtain ⟨rfl, rfl⟩ := trodVars_none hV
  obtain ⟨rv0, nv0, rs0, ns0, rfl, hr0, hn0, hw0, hcap0⟩ := open_grammar7 (hval 0 25 v0 rfl rfl) h0
  obtain ⟨c, rfl, -, -, wc⟩ := open_int Try.underlying5 (hval 1 5 v1 rfl rfl) h1
  have hc : 0 ≤ c ∧ c ≤ 255 := by
    simp [Lit.wf, IntKind.min, IntKind.max, IntKind.signed, IntKind.bits] at wc
    omega
  obtain ⟨a, rfl⟩ : ∃ a : Nat, c = a := ⟨c.toNat, by omega⟩
  refine (law7_chains rv0 nv0 rs0 ns0 a W (by omega) hr0 hn0 hcap0).mono fun e W' ⟨he, hb⟩ => ?_
  subst he
  exact ⟨_, rfl, post_law laid_mcha (by kernel_rfl) rfl rfl Try.underlying4 rfl rfl rfl hW' hb⟩
theorem mcha_holds : Rows.MeasureChainsSaid :=
  OpenClaim.holds_of_wide 7 Try.f7 rfl rfl rfl rfl rfl rfl rfl ⟨rfl, rfl, rfl, rfl, rfl⟩ rfl rfl rfl rfl rfl (by kernel_rfl) Try.func7 (by kernel_rfl)
    (of_decide_eq_true (by kernel_rfl)) (by unfold Func.isWrapper; first | (rw [if_pos (by decide +kernel)]; kernel_rfl) | (rw [if_neg (by decide +kernel)]; exact ⟨rfl, rfl⟩))
    (fun os started H enc _ => mcha_lifted os started H enc)
end Go.Proofs.Ytklimoepkifnhaa
