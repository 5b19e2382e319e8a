/- Proved: the law WfNeeds returns true for every grammar and every 16-bit number, and changes nothing that lay in memory before. No condition. -/
import Derived.Test.YtnfjbjmdempafaaRows
import Derived.ChangeMaps5
import Derived.Test.YtnfjbjmdempafaaPkL
import Derived.Test.YtnfjbjmdempafaaPkWfOpen
import Derived.Test.YtnfjbjmdempafaaPkWfLaw2
namespace Go.Proofs.Ytnfjbjmdempafaa
open Go.ChangeShapes Go.WideShapes Go.ChangeAt Go.RowKit Go.ChangeMaps
theorem u16_12wnds {c : Int} (h : (Lit.int .u16 c).wf = true) : 0 ≤ c ∧ c ≤ 65535 := by
  simp [Lit.wf, IntKind.min, IntKind.max, IntKind.signed, IntKind.bits] at h
  omega
theorem own_wnds : ownKnob Try.prog.godebug = none := by kernel_rfl
theorem laid_wnds : laidOutB Try.prog = true := by kernel_rfl
set_option maxRecDepth 100000 in
theorem wnds_lifted (os : Os) (started : os.Started) (H : Type) (enc : TypeId × Value → H) :
    ReturnsInHanded {} Try.checked os 4 .any (Rows.wfNeedsSpec.pre6 enc Try.prog Try.f4 Rows.wfNeedsRow.domain false) (Rows.wfNeedsSpec.post enc Try.prog Try.f4 false true false false) := by
  refine returnsInHanded_of_change (C := Try.checked) own_wnds started (by kernel_rfl) Try.func4
    (ChangeSpec.witness6 (enc := enc) (C := Try.checked) false ⟨#[], #[.agg #[.slice none 0 0, .slice none 0 0], .int .u16 0], []⟩ 8 (by kernel_rfl) (by kernel_rfl) (by kernel_rfl) (by kernel_rfl)) ?_
  intro W base args ds gs before hval0 hW hcnd _
  have hval : ∀ (j : Nat) t v, Try.f4.params[j]? = some t → args[j]? = some v → Value.okWide Try.prog W .any base t v := hval0
  have hW' := hW
  obtain ⟨p, q, hA0, hV, rfl, hfz, hnd⟩ := hW
  have hA : DataW.TrodAll enc Try.prog W 0 (fun _ => true) true Try.f4.params.toList args.toList ds p := hA0
  rw [Try.params4] at hA hval
  obtain ⟨v0, v1, d0, d1, p0, p1, rfl, rfl, rfl, h0, h1⟩ := trodAll_two hA
  obtain ⟨rfl, rfl⟩ := trodVars_none hV
  obtain ⟨rv0, nv0, rs0, ns0, rfl, hr0, hn0, hc0⟩ := open_grammar12 (hval 0 25 v0 rfl rfl) h0
  obtain ⟨c1, rfl, -, -, wc1⟩ := open_int Try.underlying42 (hval 1 42 v1 rfl rfl) h1
  obtain ⟨a1, rfl⟩ : ∃ a : Nat, c1 = (a : Int) := ⟨c1.toNat, by have := (u16_12wnds wc1).1; omega⟩
  have ha1 : a1 ≤ 65535 := by have := (u16_12wnds wc1).2; omega
  refine (law12_needs rv0 nv0 rs0 ns0 a1 ha1 W hr0 hn0 hc0).mono fun e W' ⟨he, hb⟩ => ?_
  subst he
  exact ⟨_, rfl, post_law laid_wnds (by kernel_rfl) rfl rfl Try.underlying4 rfl rfl rfl hW' hb⟩
theorem wnds_holds : Rows.WfNeedsSaid :=
  OpenClaim.holds_of_wide 4 Try.f4 rfl rfl rfl rfl rfl rfl rfl ⟨rfl, rfl, rfl, rfl, rfl⟩ rfl rfl rfl rfl rfl (by kernel_rfl) Try.func4 (by kernel_rfl)
    (of_decide_eq_true (by kernel_rfl)) (by unfold Func.isWrapper; first | (rw [if_pos (by decide +kernel)]; kernel_rfl) | (rw [if_neg (by decide +kernel)]; exact ⟨rfl, rfl⟩))
    (fun os started H enc _ => wnds_lifted os started H enc)
end Go.Proofs.Ytnfjbjmdempafaa
