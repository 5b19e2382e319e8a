/- The reference's Few and Owner. -/
import Derived.Test.YtnfjbjmdempafaaPxB
namespace Go.Proofs.Ytnfjbjmdempafaa
open Go.RowKit
def fewB (rs : List PR) (ns : List PN) : Bool := rs.all (fun r => decide (r.name.size ≤ 100)) && (ns.all (fun n => decide (n.kids.length ≤ 60)) && (decide (rs.length ≤ 30) && decide (ns.length ≤ 300)))
theorem fewB_yes {rs : List PR} {ns : List PN} (h : fewB rs ns = true) : (∀ r, r ∈ rs → r.name.size ≤ 100) ∧ (∀ n, n ∈ ns → n.kids.length ≤ 60) ∧ rs.length ≤ 30 ∧ ns.length ≤ 300 := by
  unfold fewB at h
  simp only [Bool.and_eq_true, List.all_eq_true, decide_eq_true_eq] at h
  exact h
theorem fewB_name {rs : List PR} {ns : List PN} {k : Nat} {r : PR} (h : rs[k]? = some r) (h2 : 100 < r.name.size) : fewB rs ns = false := by
  cases hf : fewB rs ns with
  | false => rfl
  | true => have := (fewB_yes hf).1 r (List.mem_of_getElem? h); omega
theorem fewB_kids {rs : List PR} {ns : List PN} {k : Nat} {n : PN} (h : ns[k]? = some n) (h2 : 60 < n.kids.length) : fewB rs ns = false := by
  cases hf : fewB rs ns with
  | false => rfl
  | true => have := (fewB_yes hf).2.1 n (List.mem_of_getElem? h); omega
theorem fewB_is {rs : List PR} {ns : List PN} (h1 : ∀ (j : Nat) r, j < rs.length → rs[j]? = some r → r.name.size ≤ 100) (h2 : ∀ (j : Nat) n, j < ns.length → ns[j]? = some n → n.kids.length ≤ 60) : fewB rs ns = (decide (rs.length ≤ 30) && decide (ns.length ≤ 300)) := by
  have e1 : rs.all (fun r => decide (r.name.size ≤ 100)) = true := by
    rw [List.all_eq_true]; intro r hr
    obtain ⟨j, hj⟩ := List.getElem?_of_mem hr
    exact decide_eq_true (h1 j r (List.getElem?_eq_some_iff.1 hj).1 hj)
  have e2 : ns.all (fun n => decide (n.kids.length ≤ 60)) = true := by
    rw [List.all_eq_true]; intro r hr
    obtain ⟨j, hj⟩ := List.getElem?_of_mem hr
    exact decide_eq_true (h2 j r (List.getElem?_eq_some_iff.1 hj).1 hj)
  unfold fewB
  rw [e1, e2, Bool.true_and, Bool.true_and]
set_option maxHeartbeats 2000000 in
set_option maxRecDepth 100000 in
theorem few_any (rv nv : Value) (rs : List PR) (ns : List PN) (w : World) (hR : RulesIn w rv rs) (hN : NodesAt w nv ns) :
    Calls Try.prog 22 #[.agg #[rv, nv]] w fun e w' => e = .returned (.bool (fewB rs ns)) ∧ Below w.heap.size w w' := by
  obtain ⟨hlr, ra, rc, rfl, hra⟩ := hR
  obtain ⟨hln, na, nc, rfl, hna⟩ := hN
  unfold maxLen at hlr hln
  have hB := one_new w
  have HB := Lib.hid hB
  clear hB
  go_enter Try.func22, Try.ntmps22
  go_wp2
  go_loop [3] (fun c => ∃ k : Nat, k ≤ rs.length ∧ c = .int .i64 k ∧ ∀ (j : Nat) r, j < k → rs[j]? = some r → r.name.size ≤ 100) (fun c => rs.length - (intOf c).toNat)
  case atStart => exact ⟨0, Nat.zero_le _, rfl, fun j r h => absurd h (Nat.not_lt_zero _)⟩
  case round =>
    obtain ⟨k, hk, rfl, hall⟩ := hrel
    have HA := Lib.hid hall
    clear hall
    by_cases hlt : k < rs.length
    · obtain ⟨r, hr⟩ : ∃ r, rs[k]? = some r := ⟨_, List.getElem?_eq_getElem hlt⟩
      rcases hra with h0 | ⟨rb, ro, rfl, hca⟩
      · rw [h0] at hlt; exact absurd hlt (Nat.not_lt_zero _)
      obtain ⟨c0, -⟩ := hca k r hr
      have lb := lt_of_cell c0
      have k1 : (k : Int) < (rs.length : Int) := by omega
      have HR := Lib.hid hr
      clear hca hr hna
      by_cases hx : 100 < r.name.size
      · have k2 : (100 : Int) < (r.name.size : Int) := by omega
        go_wp2
        go_ret
        exact ⟨ret_bool (fewB_name HR.out hx).symm, HB.out _⟩
      · have k2 : ¬ (100 : Int) < (r.name.size : Int) := by omega
        go_wp2
        go_round
        case rel => exact ⟨k + 1, by omega, by go_num, fun j x hj hx2 => by
          by_cases e : j = k
          · subst e
            have := HR.out
            rw [hx2] at this
            obtain rfl := Option.some.inj this
            omega
          · exact HA.out j x (by omega) hx2⟩
        case measure => simp [intOf]; omega
    · obtain rfl : k = rs.length := by omega
      have k1 : ¬ (rs.length : Int) < (rs.length : Int) := by omega
      clear hra
      go_wp2
      go_loop [4] (fun c => ∃ k : Nat, k ≤ ns.length ∧ c = .int .i64 k ∧ ∀ (j : Nat) n, j < k → ns[j]? = some n → n.kids.length ≤ 60) (fun c => ns.length - (intOf c).toNat)
      case atStart => exact ⟨0, Nat.zero_le _, rfl, fun j r h => absurd h (Nat.not_lt_zero _)⟩
      case round =>
        obtain ⟨k, hk, rfl, hall⟩ := hrel
        have HA2 := Lib.hid hall
        clear hall
        by_cases hlt2 : k < ns.length
        · obtain ⟨n, hn⟩ : ∃ r, ns[k]? = some r := ⟨_, List.getElem?_eq_getElem hlt2⟩
          rcases hna with h0 | ⟨nb, no, rfl, hca⟩
          · rw [h0] at hlt2; exact absurd hlt2 (Nat.not_lt_zero _)
          obtain ⟨kv, c0, c1, c2, c3, c4, c5, c6, ⟨ka, kc, rfl, -⟩, -⟩ := hca k n hn
          have lb := lt_of_cell c0
          have k2 : (k : Int) < (ns.length : Int) := by omega
          have HN := Lib.hid hn
          clear hca hn c0 c2 c3 c4 c5 c6
          by_cases hx : 60 < n.kids.length
          · have k3 : (60 : Int) < (n.kids.length : Int) := by omega
            go_wp2
            go_ret
            exact ⟨ret_bool (fewB_kids HN.out hx).symm, HB.out _⟩
          · have k3 : ¬ (60 : Int) < (n.kids.length : Int) := by omega
            go_wp2
            go_round
            case rel => exact ⟨k + 1, by omega, by go_num, fun j x hj hx2 => by
              by_cases e : j = k
              · subst e
                have := HN.out
                rw [hx2] at this
                obtain rfl := Option.some.inj this
                omega
              · exact HA2.out j x (by omega) hx2⟩
            case measure => simp [intOf]; omega
        · obtain rfl : k = ns.length := by omega
          have k2 : ¬ (ns.length : Int) < (ns.length : Int) := by omega
          have HF := Lib.hid (fewB_is HA.out HA2.out)
          by_cases h30 : rs.length ≤ 30
          · rw [decide_eq_true h30, Bool.true_and] at HF
            have k3 : (rs.length : Int) ≤ 30 := by omega
            by_cases h300 : ns.length ≤ 300
            · rw [decide_eq_true h300] at HF
              have k4 : (ns.length : Int) ≤ 300 := by omega
              go_wp2
              go_ret
              exact ⟨ret_bool HF.out.symm, HB.out _⟩
            · rw [decide_eq_false h300] at HF
              have k4 : ¬ (ns.length : Int) ≤ 300 := by omega
              go_wp2
              go_ret
              exact ⟨ret_bool HF.out.symm, HB.out _⟩
          · rw [decide_eq_false h30, Bool.false_and] at HF
            have k3 : ¬ (rs.length : Int) ≤ 30 := by omega
            go_wp2
            go_ret
            exact ⟨ret_bool HF.out.symm, HB.out _⟩
end Go.Proofs.Ytnfjbjmdempafaa
