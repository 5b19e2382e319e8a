/- Proved: the law WfExtends returns true for every grammar and all numbers of 8 bits, and changes nothing that lay in memory before. No condition. -/
import Derived.Test.YtnfjbjmdempafaaRows
import Derived.ChangeMaps5
import Derived.Test.YtnfjbjmdempafaaPxWfLaw4
import Derived.Test.YtnfjbjmdempafaaPxL
import Derived.Test.YtnfjbjmdempafaaPxWfOpen
namespace Go.Proofs.Ytnfjbjmdempafaa
open Go.ChangeShapes Go.WideShapes Go.ChangeAt Go.RowKit Go.ChangeMaps
theorem u8_12wext {c : Int} (h : (Lit.int .u8 c).wf = true) : 0 ≤ c ∧ c ≤ 255 := by
  simp [Lit.wf, IntKind.min, IntKind.max, IntKind.signed, IntKind.bits] at h
  omega
theorem own_wext : ownKnob Try.prog.godebug = none := by kernel_rfl
theorem laid_wext : laidOutB Try.prog = true := by kernel_rfl
set_option maxRecDepth 100000 in
theorem wext_lifted (os : Os) (started : os.Started) (H : Type) (enc : TypeId × Value → H) :
    ReturnsInHanded {} Try.checked os 6 .any (Rows.wfExtendsSpec.pre6 enc Try.prog Try.f6 Rows.wfExtendsRow.domain false) (Rows.wfExtendsSpec.post enc Try.prog Try.f6 false true false false) := by
  refine returnsInHanded_of_change (C := Try.checked) own_wext started (by kernel_rfl) Try.func6
    (ChangeSpec.witness6 (enc := enc) (C := Try.checked) false ⟨#[], #[.agg #[.slice none 0 0, .slice none 0 0], .int .u8 0, .int .u8 0], []⟩ 8 (by kernel_rfl) (by kernel_rfl) (by kernel_rfl) (by kernel_rfl)) ?_
  intro W base args ds gs before hval0 hW hcnd _
  have hval : ∀ (j : Nat) t v, Try.f6.params[j]? = some t → args[j]? = some v → Value.okWide Try.prog W .any base t v := hval0
  have hW' := hW
  obtain ⟨p, q, hA0, hV, rfl, hfz, hnd⟩ := hW
  have hA : DataW.TrodAll enc Try.prog W 0 (fun _ => true) true Try.f6.params.toList args.toList ds p := hA0
  rw [Try.params6] at hA hval
  obtain ⟨v0, v1, v2, d0, d1, d2, p0, p1, p2, rfl, rfl, rfl, h0, h1, h2⟩ := trodAll_three hA
  obtain ⟨rfl, rfl⟩ := trodVars_none hV
  obtain ⟨rv0, nv0, rs0, ns0, rfl, hr0, hn0, hc0⟩ := open_grammar12 (hval 0 25 v0 rfl rfl) h0
  obtain ⟨c1, rfl, -, -, wc1⟩ := open_int Try.underlying5 (hval 1 5 v1 rfl rfl) h1
  obtain ⟨a1, rfl⟩ : ∃ a : Nat, c1 = (a : Int) := ⟨c1.toNat, by have := (u8_12wext wc1).1; omega⟩
  have ha1 : a1 ≤ 255 := by have := (u8_12wext wc1).2; omega
  obtain ⟨c2, rfl, -, -, wc2⟩ := open_int Try.underlying5 (hval 2 5 v2 rfl rfl) h2
  obtain ⟨a2, rfl⟩ : ∃ a : Nat, c2 = (a : Int) := ⟨c2.toNat, by have := (u8_12wext wc2).1; omega⟩
  have ha2 : a2 ≤ 255 := by have := (u8_12wext wc2).2; omega
  refine (law12_extends rv0 nv0 rs0 ns0 a1 a2 ha1 ha2 W hr0 hn0 hc0).mono fun e W' ⟨he, hb⟩ => ?_
  subst he
  exact ⟨_, rfl, post_law laid_wext (by kernel_rfl) rfl rfl Try.underlying4 rfl rfl rfl hW' hb⟩
theorem wext_holds : Rows.WfExtendsSaid :=
  OpenClaim.holds_of_wide 6 Try.f6 rfl rfl rfl rfl rfl rfl rfl ⟨rfl, rfl, rfl, rfl, rfl⟩ rfl rfl rfl rfl rfl (by kernel_rfl) Try.func6 (by kernel_rfl)
    (of_decide_eq_true (by kernel_rfl)) (by unfold Func.isWrapper; first | (rw [if_pos (by decide +kernel)]; kernel_rfl) | (rw [if_neg (by decide +kernel)]; exact ⟨rfl, rfl⟩))
    (fun os started H enc _ => wext_lifted os started H enc)
end Go.Proofs.Ytnfjbjmdempafaa
