/- The walk of the law EscapeReads, given that the fixed examples are as documented. -/
import Derived.Test.YtlcaclemogamdaaEscPlain
namespace Go.Proofs.Ytlcaclemogamdaa
open Go.RowKit
theorem below_drewN {n : Nat} {w w' : World} {m : Nat} (h : Below n w w') : Below n w (w'.drewN m) := by
  induction m with
  | zero => exact h
  | succ m ih => exact ih.drew
theorem rdl_lt (l : List Nat) (hl : ∀ x, x ∈ l → x < 256) (c n : Nat) (h : rdl l = some (c, n)) : c < 256 := by
  cases l with
  | nil => cases h
  | cons d r =>
    by_cases hd : d = 92
    · subst hd
      rw [rdl_esc] at h
      have := esc_le r (fun x hx => hl x (List.mem_cons_of_mem _ hx))
      by_cases h0 : (esc r).2 = 0
      · rw [if_pos h0] at h; cases h
      · rw [if_neg h0] at h
        obtain ⟨rfl, -⟩ := Prod.mk.inj (Option.some.inj h)
        exact this
    · rw [rdl_plain d r hd] at h
      obtain ⟨rfl, -⟩ := Prod.mk.inj (Option.some.inj h)
      exact hl _ (List.mem_cons_self ..)
theorem rd_some {s : ByteArray} {p : Int} {c n : Nat} (h : rd (bts s) p = some (c, n)) : 0 ≤ p ∧ p + n ≤ s.size ∧ 1 ≤ n ∧ c < 256 := by
  by_cases hn : p < 0
  · rw [rd_neg _ _ hn] at h; cases h
  · obtain ⟨k, rfl⟩ : ∃ k : Nat, p = k := ⟨p.toNat, by omega⟩
    rw [rd_nat] at h
    have h1 := rdl_len _ _ _ h
    have h2 := rdl_lt _ (fun x hx => bts_lt s x (List.mem_of_mem_drop hx)) _ _ h
    rw [List.length_drop, bts_length] at h1
    omega
theorem eread_no (s : ByteArray) (p : Int) (w : World) (hs : s.size ≤ 1000000) (h : rd (bts s) p = none) :
    Calls Try.prog 9 #[.string s, .int .i64 p] w fun e w' => e = .returned (.tuple #[.int .u8 0, .int .i64 0, .bool false]) ∧ w' = w := by
  have := read_any s p w hs
  unfold ReadIs readV at this
  rw [h] at this
  exact this
theorem eread_yes (s : ByteArray) (p : Int) (c n : Nat) (w : World) (hs : s.size ≤ 1000000) (h : rd (bts s) p = some (c, n)) :
    Calls Try.prog 9 #[.string s, .int .i64 p] w fun e w' => e = .returned (.tuple #[.int .u8 (c : Int), .int .i64 (p + (n : Int)), .bool true]) ∧ w' = w := by
  have := read_any s p w hs
  unfold ReadIs readV at this
  rw [h] at this
  exact this
theorem rread_no (s : ByteArray) (p : Int) (w : World) (hs : s.size ≤ 1000000) (h : rd (bts s) p = none) :
    Calls Try.prog 10 #[.string s, .int .i64 p] w fun e w' => e = .returned (.tuple #[.int .i64 0, .int .i64 (-1)]) ∧ ∃ m, w' = w.drewN m := by
  have := rread_any s p w hs
  unfold RReadIs rreadV at this
  rw [h] at this
  exact this
theorem rread_yes (s : ByteArray) (p : Int) (c n : Nat) (w : World) (hs : s.size ≤ 1000000) (h : rd (bts s) p = some (c, n)) :
    Calls Try.prog 10 #[.string s, .int .i64 p] w fun e w' => e = .returned (.tuple #[.int .i64 (c : Int), .int .i64 (p + (n : Int))]) ∧ ∃ m, w' = w.drewN m := by
  have := rread_any s p w hs
  unfold RReadIs rreadV at this
  rw [h] at this
  exact this
set_option maxHeartbeats 2000000 in
theorem reads_any (hA : AwakeAt) (s : ByteArray) (p : Int) (w : World) (hs : s.size ≤ 9223372036854775807) :
    Calls Try.prog 3 #[.string s, .int .i64 p] w fun e w' => e = .returned (.bool true) ∧ Below w.heap.size w w' := by
  unfold AwakeAt at hA
  have HA := Lib.hid hA
  clear hA
  have hB : Below w.heap.size w w := Below.refl _ _
  by_cases hz : (s.size : Int) ≤ 1000
  · have hz' : s.size ≤ 1000000 := by omega
    cases hr : rd (bts s) p with
    | none =>
      have HR := Lib.hid hr
      clear hr
      go_enter Try.func3, Try.ntmps3
      go_wp2_with (first
        | (go_at_call 8; (with_reducible refine (HA.out _).mono ?_); rintro e w1 ⟨rfl, hb⟩; replace hB := hB.trans (hb.mono hB.size); clear hb)
        | (go_at_call 9; (with_reducible refine (eread_no s p _ hz' HR.out).mono ?_); rintro e w' ⟨rfl, hw⟩; obtain rfl := hw.symm; clear hw)
        | (go_at_call 10; (with_reducible refine (rread_no s p _ hz' HR.out).mono ?_); rintro e w' ⟨rfl, m, rfl⟩; replace hB := below_drewN (m := m) hB))
      go_ret
      exact ⟨rfl, hB⟩
    | some x =>
      obtain ⟨c, n⟩ := x
      obtain ⟨p0, p1, p2, p3⟩ := rd_some hr
      have HR := Lib.hid hr
      have hmod : (c : Int) % 256 = c := by omega
      have q0 : ¬ p + (n : Int) < 0 := by omega
      clear hr p3
      go_enter Try.func3, Try.ntmps3
      go_wp2_with (first
        | (go_at_call 8; (with_reducible refine (HA.out _).mono ?_); rintro e w1 ⟨rfl, hb⟩; replace hB := hB.trans (hb.mono hB.size); clear hb)
        | (go_at_call 9; (with_reducible refine (eread_yes s p c n _ hz' HR.out).mono ?_); rintro e w' ⟨rfl, hw⟩; obtain rfl := hw.symm; clear hw)
        | (go_at_call 10; (with_reducible refine (rread_yes s p c n _ hz' HR.out).mono ?_); rintro e w' ⟨rfl, m, rfl⟩; replace hB := below_drewN (m := m) hB))
      go_ret
      exact ⟨rfl, hB⟩
  · go_enter Try.func3, Try.ntmps3
    go_wp2_with (first
      | (go_at_call 8; (with_reducible refine (HA.out _).mono ?_); rintro e w1 ⟨rfl, hb⟩; replace hB := hB.trans (hb.mono hB.size); clear hb))
    go_ret
    exact ⟨rfl, hB⟩
end Go.Proofs.Ytlcaclemogamdaa
