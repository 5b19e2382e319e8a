/- Proved: the law BuildAppends returns true for every two grammars and every 16-bit number, and changes nothing that lay in memory before. No condition. -/
import Derived.Test.YtnebdnonkefloaaRows
import Derived.Test.YtnebdnonkefloaaBuildOpen3
import Derived.Test.YtnebdnonkefloaaBuildLawApp
import Derived.Test.YtnebdnonkefloaaLift
import Derived.ChangeMaps5
namespace Go.Proofs.Ytnebdnonkefloaa
open Go.ChangeShapes Go.WideShapes Go.ChangeAt Go.RowKit Go.ChangeMaps
theorem own_bapp : ownKnob Try.prog.godebug = none := by kernel_rfl
theorem laid_bapp : laidOutB Try.prog = true := by kernel_rfl
set_option maxRecDepth 100000 in
theorem bapp_lifted (os : Os) (started : os.Started) (H : Type) (enc : TypeId × Value → H) :
    ReturnsInHanded {} Try.checked os 6 .any (Rows.buildAppendsSpec.pre6 enc Try.prog Try.f6 Rows.buildAppendsRow.domain false) (Rows.buildAppendsSpec.post enc Try.prog Try.f6 false true false false) := by
  refine returnsInHanded_of_change (C := Try.checked) own_bapp started (by kernel_rfl) Try.func6
    (ChangeSpec.witness6 (enc := enc) (C := Try.checked) false ⟨#[], #[.agg #[.slice none 0 0, .slice none 0 0], .agg #[.slice none 0 0, .slice none 0 0], .int .u16 0], []⟩ 8 (by kernel_rfl) (by kernel_rfl) (by kernel_rfl) (by kernel_rfl)) ?_
  intro W base args ds gs before hval0 hW hcnd _
  have hval : ∀ (j : Nat) t v, Try.f6.params[j]? = some t → args[j]? = some v → Value.okWide Try.prog W .any base t v := hval0
  have hW' := hW
  obtain ⟨p, q, hA0, hV, rfl, hfz, hnd⟩ := hW
  have hA : DataW.TrodAll enc Try.prog W 0 (fun _ => true) true Try.f6.params.toList args.toList ds p := hA0
  rw [Try.params6] at hA hval
  obtain ⟨v0, v1, v2, d0, d1, d2, p0, p1, p2, rfl, rfl, rfl, h0, h1, h2⟩ := trodAll_three hA
  obtain ⟨rfl, rfl⟩ := trodVars_none hV
  obtain ⟨rv0, nv0, rs0, ns0, rfl, hr0, hn0⟩ := open_grammar (hval 0 36 v0 rfl rfl) h0
  obtain ⟨rv1, nv1, rs1, ns1, rfl, hr1, hn1, hcap⟩ := open_grammar_cap (hval 1 36 v1 rfl rfl) h1
  obtain ⟨c, rfl, -, -, wc⟩ := open_int Try.underlying48 (hval 2 48 v2 rfl rfl) h2
  have hc : 0 ≤ c ∧ c ≤ 65535 := by
    simp [Lit.wf, IntKind.min, IntKind.max, IntKind.signed, IntKind.bits] at wc
    omega
  obtain ⟨a, rfl⟩ : ∃ a : Nat, c = a := ⟨c.toNat, by omega⟩
  refine (appends_any buildAwake rv0 nv0 rv1 nv1 rs0 rs1 ns0 ns1 a W (by omega) hr0 hn0 hr1 hn1 hcap).mono fun e W' ⟨he, hb⟩ => ?_
  subst he
  exact ⟨_, rfl, post_law laid_bapp (by kernel_rfl) rfl rfl Try.underlying4 rfl rfl rfl hW' hb⟩
theorem bapp_holds : Rows.BuildAppendsSaid :=
  OpenClaim.holds_of_wide 6 Try.f6 rfl rfl rfl rfl rfl rfl rfl ⟨rfl, rfl, rfl, rfl, rfl⟩ rfl rfl rfl rfl rfl (by kernel_rfl) Try.func6 (by kernel_rfl)
    (of_decide_eq_true (by kernel_rfl)) (by unfold Func.isWrapper; first | (rw [if_pos (by decide +kernel)]; kernel_rfl) | (rw [if_neg (by decide +kernel)]; exact ⟨rfl, rfl⟩))
    (fun os started H enc _ => bapp_lifted os started H enc)
end Go.Proofs.Ytnebdnonkefloaa
