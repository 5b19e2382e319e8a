/- WfExtends: a grammar with a call, a node of one kid above it and a rule more. -/
import Derived.Test.YtnfjbjmdempafaaPxWD
namespace Go.Proofs.Ytnfjbjmdempafaa
open Go.RowKit
def mR (N : Nat) : PR := ⟨⟨#[109, 111, 114, 101]⟩, (N : Int) + 1⟩
def mN1 (ru : Nat) : PN := ⟨2, [], (ru : Int), 0, 0, 0, 0⟩
def mN2 (m N : Nat) : PN := ⟨7 + (m : Int), [(N : Int)], 0, 0, 0, 0, 0⟩
theorem rulesC_snoc (rs : List PR) (r : PR) : rulesC (rs ++ [r]) = rulesC rs ++ [.string r.name, .int .i64 r.root] := by
  unfold rulesC
  rw [List.flatMap_append]
  simp [ruleC]
theorem nodesC_two {ns : List PN} {qs : List Value} (h : qs.length = ns.length) (a b : PN) (p q : Value) : nodesC ((ns ++ [a, b]).zip (qs ++ [p, q])) = nodesC (ns.zip qs) ++ (nodeC (a, p) ++ nodeC (b, q)) := by
  unfold nodesC
  rw [List.zip_append h.symm, List.flatMap_append]
  simp
section
variable {rs : List PR} {ns : List PN} {ru m : Nat} {x : PR}
theorem mlen : (ns ++ [mN1 ru, mN2 m ns.length]).length = ns.length + 2 := by rw [List.length_append]; rfl
theorem mold_r {r : PR} (i : Nat) (y : PR) (h : rs[i]? = some y) : (rs ++ [r])[i]? = some y := by rw [List.getElem?_append_left (List.getElem?_eq_some_iff.1 h).1]; exact h
theorem mold_n {l : List PN} (i : Nat) (y : PN) (h : ns[i]? = some y) : (ns ++ l)[i]? = some y := by rw [List.getElem?_append_left (List.getElem?_eq_some_iff.1 h).1]; exact h
theorem mnew0 : (ns ++ [mN1 ru, mN2 m ns.length])[ns.length]? = some (mN1 ru) := by rw [List.getElem?_append_right (Nat.le_refl _), Nat.sub_self]; rfl
theorem mnew1 : (ns ++ [mN1 ru, mN2 m ns.length])[ns.length + 1]? = some (mN2 m ns.length) := by rw [List.getElem?_append_right (Nat.le_add_right _ 1), Nat.add_sub_cancel_left]; rfl
theorem more_ok (hO : FlowOk rs ns) (h3 : ns.length ≤ 300) (hru : rs[ru]? = some x) (hx : 0 ≤ x.root ∧ x.root < (ns.length : Int)) (hm : m < 3) : FlowOk (rs ++ [mR ns.length]) (ns ++ [mN1 ru, mN2 m ns.length]) := by
  refine ⟨by rw [mlen]; omega, fun n hn => ?_, fun n hn => ?_⟩
  · rcases List.mem_append.1 hn with h | h
    · exact hO.kl n h
    · simp at h
      rcases h with rfl | rfl
      · exact Nat.zero_le _
      · show 1 ≤ 60; omega
  · rw [mlen]
    rcases List.mem_append.1 hn with h | h
    · obtain ⟨h1, h2, h4⟩ := hO.ok n h
      exact ⟨h1, fun k hk => by have := h2 k hk; omega, fun e => by
        obtain ⟨r, y, a, b, c, d⟩ := h4 e
        exact ⟨r, y, a, mold_r _ _ b, c, by omega⟩⟩
    · simp at h
      rcases h with rfl | rfl
      · exact ⟨⟨by show (0 : Int) ≤ 2; omega, by show (2 : Int) ≤ 9; omega, fun h => absurd (show (5 : Int) ≤ 2 from h) (by omega)⟩, fun k hk => (by cases hk), fun _ => ⟨ru, x, rfl, mold_r _ _ hru, hx.1, by omega⟩⟩
      · exact ⟨⟨by show (0 : Int) ≤ 7 + (m : Int); omega, by show 7 + (m : Int) ≤ 9; omega, fun _ => ⟨_, rfl⟩⟩, fun k hk => by obtain rfl := List.mem_singleton.1 hk; omega, fun h => absurd (show 7 + (m : Int) = 2 from h) (by omega)⟩
theorem more_old (hO : FlowOk rs ns) (hO' : FlowOk (rs ++ [mR ns.length]) (ns ++ [mN1 ru, mN2 m ns.length])) {i : Nat} (hi : i < ns.length) : (wfL (rs ++ [mR ns.length]) (ns ++ [mN1 ru, mN2 m ns.length]))[i]? = (wfL rs ns)[i]? := by
  have hi' : i < (ns ++ [mN1 ru, mN2 m ns.length]).length := by rw [mlen]; omega
  rw [wfL_at hi', wfL_at hi]
  congr 1
  rw [Bool.eq_iff_iff, wfL_is hO' hi', wfL_is hO hi]
  exact wf_ext hO.ok mold_r mold_n (by rw [mlen]; omega) hi
theorem more_new (hO' : FlowOk (rs ++ [mR ns.length]) (ns ++ [mN1 ru, mN2 m ns.length])) (hru : rs[ru]? = some x) {j : Nat} (hx : x.root = (j : Int)) (hj : j < ns.length) :
    (wfL (rs ++ [mR ns.length]) (ns ++ [mN1 ru, mN2 m ns.length]))[ns.length]? = (wfL (rs ++ [mR ns.length]) (ns ++ [mN1 ru, mN2 m ns.length]))[j]? ∧ (wfL (rs ++ [mR ns.length]) (ns ++ [mN1 ru, mN2 m ns.length]))[ns.length + 1]? = (wfL (rs ++ [mR ns.length]) (ns ++ [mN1 ru, mN2 m ns.length]))[j]? := by
  have h0 : ns.length < (ns ++ [mN1 ru, mN2 m ns.length]).length := by rw [mlen]; omega
  have h1 : ns.length + 1 < (ns ++ [mN1 ru, mN2 m ns.length]).length := by rw [mlen]; omega
  have h2 : j < (ns ++ [mN1 ru, mN2 m ns.length]).length := by rw [mlen]; omega
  have e0 : WfG (needW (rs ++ [mR ns.length]) (ns ++ [mN1 ru, mN2 m ns.length]) (lfp (rs ++ [mR ns.length]) (ns ++ [mN1 ru, mN2 m ns.length]))) (loopW (ns ++ [mN1 ru, mN2 m ns.length]) (lfp (rs ++ [mR ns.length]) (ns ++ [mN1 ru, mN2 m ns.length]))) ns.length ↔ WfG (needW (rs ++ [mR ns.length]) (ns ++ [mN1 ru, mN2 m ns.length]) (lfp (rs ++ [mR ns.length]) (ns ++ [mN1 ru, mN2 m ns.length]))) (loopW (ns ++ [mN1 ru, mN2 m ns.length]) (lfp (rs ++ [mR ns.length]) (ns ++ [mN1 ru, mN2 m ns.length]))) j := by
    rw [wf_call mnew0 rfl]
    show WfG _ _ (rootF (rs ++ [mR ns.length]) (ru : Int)).toNat ↔ _
    rw [rootF_at (mold_r _ _ hru), hx, Int.toNat_natCast]
  have e1 : WfG (needW (rs ++ [mR ns.length]) (ns ++ [mN1 ru, mN2 m ns.length]) (lfp (rs ++ [mR ns.length]) (ns ++ [mN1 ru, mN2 m ns.length]))) (loopW (ns ++ [mN1 ru, mN2 m ns.length]) (lfp (rs ++ [mR ns.length]) (ns ++ [mN1 ru, mN2 m ns.length]))) (ns.length + 1) ↔ WfG (needW (rs ++ [mR ns.length]) (ns ++ [mN1 ru, mN2 m ns.length]) (lfp (rs ++ [mR ns.length]) (ns ++ [mN1 ru, mN2 m ns.length]))) (loopW (ns ++ [mN1 ru, mN2 m ns.length]) (lfp (rs ++ [mR ns.length]) (ns ++ [mN1 ru, mN2 m ns.length]))) ns.length := by
    rw [wf_kid (k := (ns.length : Int)) mnew1 (by show 7 ≤ 7 + (m : Int); omega) rfl, Int.toNat_natCast]
  rw [wfL_at h0, wfL_at h1, wfL_at h2]
  refine ⟨?_, ?_⟩ <;> congr 1 <;> rw [Bool.eq_iff_iff]
  · rw [wfL_is hO' h0, wfL_is hO' h2]; exact e0
  · rw [wfL_is hO' h1, wfL_is hO' h2]; exact e1.trans e0
end
/-- What is in rows of one's own has capacities that are large enough. -/
theorem NRow.caps {base : Nat} {v : Value} {ns : List PN} {qs : List Value} {w : World} (h : NRow base v ns qs w) : CapsAt w v ns.length := fun b off n c e i hi a m d hc => by
  subst e
  obtain ⟨hq, ho, hk⟩ := h
  obtain ⟨y, hy⟩ : ∃ y, ns[i]? = some y := ⟨_, List.getElem?_eq_getElem hi⟩
  obtain ⟨q, hqq⟩ : ∃ q, qs[i]? = some q := ⟨_, List.getElem?_eq_getElem (by omega)⟩
  rcases ho.2 with ⟨e, -⟩ | ⟨g, cap, cur, e, -⟩
  · injection e with e; cases e
  · have e2 := e
    injection e2 with e1
    injection e1 with e1
    injection e1 with e3 e4
    subst e3 e4
    have := ho.cells rfl (i * 7 + 1) q (by rw [nodesC_at (zip_at hy hqq) (by decide)]; rfl)
    rw [Addr.add_lit] at this
    rw [Nat.add_assoc] at hc
    rw [this] at hc
    have hc := Option.some.inj hc
    subst hc
    rcases (hk i y _ hy hqq).2 with ⟨e, -⟩ | ⟨_, cap2, _, e, -, -, hcap, -⟩
    · injection e with _ e1 e2; omega
    · injection e with _ e1 e2; omega
end Go.Proofs.Ytnfjbjmdempafaa
