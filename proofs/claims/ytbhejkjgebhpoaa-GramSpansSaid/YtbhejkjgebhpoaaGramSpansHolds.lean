/- Proved: the law GramSpans returns true for every grammar and every 16-bit number, and changes nothing that lay in memory before. No condition. -/
import Derived.Test.YtbhejkjgebhpoaaRows
import Derived.Test.YtbhejkjgebhpoaaGramOpen
import Derived.Test.YtbhejkjgebhpoaaGramLaws
import Derived.Test.YtbhejkjgebhpoaaLift
import Derived.ChangeMaps5
namespace Go.Proofs.Ytbhejkjgebhpoaa
open Go.ChangeShapes Go.WideShapes Go.ChangeAt Go.RowKit Go.ChangeMaps
theorem own_gspans : ownKnob Try.prog.godebug = none := by kernel_rfl
theorem laid_gspans : laidOutB Try.prog = true := by kernel_rfl
set_option maxRecDepth 100000 in
theorem gspans_lifted (os : Os) (started : os.Started) (H : Type) (enc : TypeId × Value → H) :
    ReturnsInHanded {} Try.checked os 5 .any (Rows.gramSpansSpec.pre6 enc Try.prog Try.f5 Rows.gramSpansRow.domain false) (Rows.gramSpansSpec.post enc Try.prog Try.f5 false true false false) := by
  refine returnsInHanded_of_change (C := Try.checked) own_gspans started (by kernel_rfl) Try.func5
    (ChangeSpec.witness6 (enc := enc) (C := Try.checked) false ⟨#[], #[.agg #[.slice none 0 0, .slice none 0 0], .int .u16 0], []⟩ 8 (by kernel_rfl) (by kernel_rfl) (by kernel_rfl) (by kernel_rfl)) ?_
  intro W base args ds gs before hval0 hW hcnd _
  have hval : ∀ (j : Nat) t v, Try.f5.params[j]? = some t → args[j]? = some v → Value.okWide Try.prog W .any base t v := hval0
  have hW' := hW
  obtain ⟨p, q, hA0, hV, rfl, hfz, hnd⟩ := hW
  have hA : DataW.TrodAll enc Try.prog W 0 (fun _ => true) true Try.f5.params.toList args.toList ds p := hA0
  rw [Try.params5] at hA hval
  obtain ⟨v0, v1, d0, d1, p0, p1, rfl, rfl, rfl, h0, h1⟩ := trodAll_two hA
  obtain ⟨rfl, rfl⟩ := trodVars_none hV
  obtain ⟨rv0, nv0, rs0, ns0, rfl, hr0, hn0⟩ := open_grammar (hval 0 25 v0 rfl rfl) h0
  obtain ⟨c, rfl, -, -, wc⟩ := open_int Try.underlying41 (hval 1 41 v1 rfl rfl) h1
  have hc : 0 ≤ c ∧ c ≤ 65535 := by
    simp [Lit.wf, IntKind.min, IntKind.max, IntKind.signed, IntKind.bits] at wc
    omega
  obtain ⟨a, rfl⟩ : ∃ a : Nat, c = a := ⟨c.toNat, by omega⟩
  refine (spans_any gramAwake rv0 nv0 rs0 ns0 a W hr0 hn0 (by omega)).mono fun e W' ⟨he, hb⟩ => ?_
  subst he
  exact ⟨_, rfl, post_law laid_gspans (by kernel_rfl) rfl rfl Try.underlying4 rfl rfl rfl hW' hb⟩
theorem gspans_holds : Rows.GramSpansSaid :=
  OpenClaim.holds_of_wide 5 Try.f5 rfl rfl rfl rfl rfl rfl rfl ⟨rfl, rfl, rfl, rfl, rfl⟩ rfl rfl rfl rfl rfl (by kernel_rfl) Try.func5 (by kernel_rfl)
    (of_decide_eq_true (by kernel_rfl)) (by unfold Func.isWrapper; first | (rw [if_pos (by decide +kernel)]; kernel_rfl) | (rw [if_neg (by decide +kernel)]; exact ⟨rfl, rfl⟩))
    (fun os started H enc _ => gspans_lifted os started H enc)
end Go.Proofs.Ytbhejkjgebhpoaa
