/- The walks of the laws GramSpans and GramMeasures. -/
import Derived.Test.YtklimoepkifnhaaGramAwake
namespace Go.Proofs.Ytklimoepkifnhaa
open Go.RowKit
theorem okB_ok {c : Chk} (h : okB c = true) : c = .ok := by cases c <;> first | rfl | cases h
theorem ord_pos {ns : List PN} {rs : List PR} (h : ordR ns rs (-1) = true) (h0 : 0 < rs.length) : 0 < ns.length := by
  cases rs with
  | nil => cases h0
  | cons r t => have := ordR_cons h; omega
/-- The kids of a node in order: where each begins, and where the last one ends. -/
theorem spans_kid {ns : List PN} {i p : Nat} {n : PN} {k : Int} (hA : exL ns i ≠ -2) (hn : ns[i]? = some n) (hk : n.kids[p]? = some k) : exL ns k ≠ -2 ∧ fstL ns k = (if p = 0 then fstL ns i else n.kids.getD (p - 1) 0 + 1) := by
  have hq := exL_eq ns (i : Int) (by omega)
  rw [show (i : Int).toNat = i by omega, kidsAt_some hn] at hq
  have := chain_spans n.kids.reverse _ (exL ns i) hq.symm hA p k (by rw [List.reverse_reverse]; exact hk)
  rw [List.reverse_reverse] at this
  refine ⟨this.1, ?_⟩
  unfold fstL
  rw [this.2]
  by_cases h0 : p = 0
  · rw [if_pos h0, if_pos h0]
  · rw [if_neg h0, if_neg h0]
theorem spans_end {ns : List PN} {i : Nat} {n : PN} (hA : exL ns i ≠ -2) (hn : ns[i]? = some n) : (if n.kids.length = 0 then fstL ns i else n.kids.getD (n.kids.length - 1) 0 + 1) = (i : Int) := by
  have hq := exL_eq ns (i : Int) (by omega)
  rw [show (i : Int).toNat = i by omega, kidsAt_some hn] at hq
  by_cases h0 : n.kids.length = 0
  · rw [if_pos h0]
    exact fstL_nil (by omega) (by rw [show (i : Int).toNat = i by omega, kidsAt_some hn]; exact List.length_eq_zero_iff.1 h0)
  · rw [if_neg h0]
    rw [hq] at hA
    have hlast : n.kids.reverse = n.kids.getD (n.kids.length - 1) 0 :: n.kids.reverse.tail := by
      have h1 : n.kids.reverse[0]? = some (n.kids.getD (n.kids.length - 1) 0) := by
        rw [List.getElem?_reverse (by omega)]
        simp only [List.getD, Nat.sub_zero]
        rw [List.getElem?_eq_getElem (by omega)]; rfl
      cases hr : n.kids.reverse with
      | nil => rw [hr] at h1; simp at h1
      | cons a l => rw [hr] at h1; simp at h1; rw [List.tail_cons, h1]; rfl
    rw [hlast] at hA
    have := (chainL_cons hA).1
    omega
theorem boxK {n G : Nat} {x0 x1 : Value} {w W W' : World} (hn : n ≤ w.heap.size) (hb : Below W.heap.size W W') (h : W.cell? ⟨G, 0, none⟩ = some x0 ∧ W.cell? ⟨G, 1, none⟩ = some x1 ∧ Below n w W) : W'.cell? ⟨G, 0, none⟩ = some x0 ∧ W'.cell? ⟨G, 1, none⟩ = some x1 ∧ Below n w W' := by
  obtain ⟨h0, h1, h2⟩ := h
  have hc := (bcell hb).1
  exact ⟨by rw [hc _ _ (lt_of_cell h0)]; exact h0, by rw [hc _ _ (lt_of_cell h1)]; exact h1, h2.trans (hb.mono (Nat.le_trans hn h2.size))⟩
end Go.Proofs.Ytklimoepkifnhaa
