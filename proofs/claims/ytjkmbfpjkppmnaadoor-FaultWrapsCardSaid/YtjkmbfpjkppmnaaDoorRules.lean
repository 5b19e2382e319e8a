/- A description of an error as the reference has it: its names in memory; and the reference's question whether they are few and short. -/
import Derived.Test.YtjkmbfpjkppmnaaDoorFaults
namespace Go.Proofs.YtjkmbfpjkppmnaaDoor
open Go.RowKit
/-- The names of a description, at some place of memory, or nowhere if there are none. -/
structure RulesAt (w : World) (at0 : Option Addr) (ss : List ByteArray) : Prop where
  at_some : ∀ i, i < ss.length → ∃ b off, at0 = some ⟨b, off, none⟩
  cells : ∀ b off, at0 = some ⟨b, off, none⟩ → ∀ i, i < ss.length → w.cell? ⟨b, off + i, none⟩ = some (.string (ss.getD i ⟨#[]⟩))
theorem RulesAt.kept {n : Nat} {w w1 : World} {at0 : Option Addr} {ss : List ByteArray} (h : RulesAt w at0 ss) (hb : Below n w w1) (hn : w.heap.size ≤ n) : RulesAt w1 at0 ss :=
  ⟨h.at_some, fun b off e i hi => by
    have hc := h.cells b off e i hi
    have := lt_of_cell hc
    rw [(bcell hb).1 _ _ (by omega)]; exact hc⟩
/-- Few, and each short. -/
def fewB (ss : List ByteArray) : Bool := ss.all (fun s => decide (s.size ≤ 100)) && decide (ss.length ≤ 20)
theorem fewB_long {ss : List ByteArray} (k : Nat) (hk : k < ss.length) (h : ¬ (ss.getD k ⟨#[]⟩).size ≤ 100) : fewB ss = false := by
  unfold fewB
  have : ss.all (fun s => decide (s.size ≤ 100)) = false := by
    rw [List.all_eq_false]
    refine ⟨ss[k], List.getElem_mem hk, ?_⟩
    have e : ss.getD k ⟨#[]⟩ = ss[k] := by rw [List.getD, List.getElem?_eq_getElem hk]; rfl
    rw [e] at h
    simpa using h
  rw [this]; rfl
theorem fewB_all {ss : List ByteArray} (h : ∀ i, i < ss.length → (ss.getD i ⟨#[]⟩).size ≤ 100) : fewB ss = decide (ss.length ≤ 20) := by
  unfold fewB
  have : ss.all (fun s => decide (s.size ≤ 100)) = true := by
    rw [List.all_eq_true]
    intro s hs
    obtain ⟨i, hi, rfl⟩ := List.getElem_of_mem hs
    have := h i hi
    rw [List.getD, List.getElem?_eq_getElem hi] at this
    simpa using this
  rw [this]; simp
theorem fewB_true {ss : List ByteArray} (h : fewB ss = true) : ss.length ≤ 20 ∧ ∀ i, i < ss.length → (ss.getD i ⟨#[]⟩).size ≤ 100 := by
  unfold fewB at h
  simp only [Bool.and_eq_true, decide_eq_true_eq, List.all_eq_true] at h
  refine ⟨h.2, fun i hi => ?_⟩
  rw [List.getD, List.getElem?_eq_getElem hi]
  exact h.1 _ (List.getElem_mem hi)
theorem retB {a b : Bool} (h : a = b) : Ending.returned (.bool a) = .returned (.bool b) := by rw [h]
set_option maxHeartbeats 2000000 in
theorem few_any (nl f : Bool) (c p : Int) (at0 : Option Addr) (cap : Nat) (ss : List ByteArray) (w : World) (hr : RulesAt w at0 ss) (hlen : ss.length ≤ 9223372036854775807) (hsz : ∀ s ∈ ss, s.size ≤ 9223372036854775807) :
    Calls Tryd.prog 9 #[.agg #[.bool nl, .slice at0 ss.length cap, .int .i64 c, .int .i64 p, .bool f]] w fun ev w' => ev = .returned (.bool (fewB ss)) ∧ Below w.heap.size w w' := by
  obtain ⟨n, hn⟩ : ∃ n, n = ss.length := ⟨_, rfl⟩
  rw [← hn] at hlen ⊢
  have Hn := Lib.hid hn
  clear hn
  have HS := Lib.hid hsz
  clear hsz
  obtain ⟨W1, hW1⟩ : ∃ W1, w.alloc (.cells #[.bool nl, .slice at0 n cap, .int .i64 c, .int .i64 p, .bool f] 24) = W1 := ⟨_, rfl⟩
  have hb1 : Below w.heap.size w W1 := by rw [← hW1]; exact (Below.refl _ _).alloc (Nat.le_refl _) _
  have hf1 : W1.cell? ⟨w.heap.size, 1, none⟩ = some (.slice at0 n cap) := by rw [← hW1]; simp
  have HR := Lib.hid (hr.kept hb1 (Nat.le_refl _))
  have HB := Lib.hid hb1
  have HW := Lib.hid hW1
  clear hr hb1 hW1
  go_enter Tryd.func9, Tryd.ntmps9
  go_wp2
  rw [HW.out]
  go_loop [3] (fun i => ∃ k : Nat, k ≤ n ∧ i = .int .i64 k ∧ Hid (∀ j, j < k → (ss.getD j ⟨#[]⟩).size ≤ 100)) (fun i => n - (intOf i).toNat)
  case atStart => exact ⟨0, Nat.zero_le _, rfl, Lib.hid (fun j hj => absurd hj (Nat.not_lt_zero _))⟩
  case round =>
    obtain ⟨k, hk, rfl, HJ⟩ := hrel
    by_cases hlt : k < n
    · obtain ⟨b, off, rfl⟩ := HR.out.at_some k (by rw [← Hn.out]; exact hlt)
      have hc := HR.out.cells b off rfl k (by rw [← Hn.out]; exact hlt)
      have hsk : (ss.getD k ⟨#[]⟩).size ≤ 9223372036854775807 := by
        have hk' : k < ss.length := by rw [← Hn.out]; exact hlt
        rw [List.getD, List.getElem?_eq_getElem hk']
        exact HS.out _ (List.getElem_mem hk')
      generalize hs : ss.getD k ⟨#[]⟩ = s at hc hsk
      have Hs := Lib.hid hs
      clear hs
      by_cases h100 : s.size ≤ 100
      · have h1 : ¬ (100 : Int) < s.size := by omega
        go_wp2
        go_round
        case rel => exact ⟨k + 1, by omega, by go_num, Lib.hid (fun j hj => by
          rcases Nat.lt_or_ge j k with h | h
          · exact HJ.out j h
          · obtain rfl : j = k := by omega
            rw [Hs.out]; exact h100)⟩
        case measure => simp [intOf]; omega
      · have h1 : (100 : Int) < s.size := by omega
        go_wp2
        go_ret
        exact ⟨retB (fewB_long k (by rw [← Hn.out]; exact hlt) (by rw [Hs.out]; exact h100)).symm, HB.out⟩
    · obtain rfl : k = n := by omega
      go_wp2
      go_ret
      exact ⟨retB (by rw [fewB_all (fun i hi => HJ.out i (by rw [Hn.out]; exact hi)), ← Hn.out]; simp; omega), HB.out⟩
end Go.Proofs.YtjkmbfpjkppmnaaDoor
