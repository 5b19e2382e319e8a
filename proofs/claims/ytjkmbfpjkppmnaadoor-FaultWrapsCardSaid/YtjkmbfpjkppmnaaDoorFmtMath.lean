/- What formatBase10 leaves in a row of bytes, as a plain function that mirrors its text. No walk. -/
import Derived.Test.YtjkmbfpjkppmnaaDoorProg
import Derived.Lib.ItoaWalk
namespace Go.Proofs.YtjkmbfpjkppmnaaDoor
/-- Two digits of v, laid at m + 1 and m. -/
def two (dk : Array UInt8) (m v : Nat) : Array UInt8 := (dk.setIfInBounds (m + 1) (Lib.sm (v % 100 * 2 + 1))).setIfInBounds m (Lib.sm (v % 100 * 2))
/-- The last digit, laid at 0: a byte, whatever v is. -/
def lastD (dk : Array UInt8) (v : Nat) : Array UInt8 := dk.setIfInBounds 0 (UInt8.ofNat (48 + v))
/-- The row that is left, n places being still to fill. -/
def fin10 : Nat → Nat → Array UInt8 → Array UInt8
  | 0, _, dk => dk
  | 1, v, dk => lastD dk v
  | 2, v, dk => two dk 0 v
  | 3, v, dk => lastD (two dk 1 v) (v / 100)
  | 4, v, dk => two (two dk 2 v) 0 (v / 100)
  | 5, v, dk => lastD (two (two dk 3 v) 1 (v / 100)) (v / 100 / 100)
  | 6, v, dk => two (two (two dk 4 v) 2 (v / 100)) 0 (v / 100 / 100)
  | 7, v, dk => lastD (two (two (two dk 5 v) 3 (v / 100)) 1 (v / 100 / 100)) (v / 100 / 100 / 100)
  | m + 8, v, dk => fin10 m (v / 100000000) (two (two (two (two dk (m + 6) v) (m + 4) (v / 100)) (m + 2) (v / 100 / 100)) m (v / 100 / 100 / 100))
theorem two_size (dk : Array UInt8) (m v : Nat) : (two dk m v).size = dk.size := by simp [two]
theorem lastD_size (dk : Array UInt8) (v : Nat) : (lastD dk v).size = dk.size := by simp [lastD]
theorem fin10_size : ∀ (n v : Nat) (dk : Array UInt8), (fin10 n v dk).size = dk.size
  | 0, _, _ => rfl
  | 1, _, _ => by simp [fin10, lastD_size]
  | 2, _, _ => by simp [fin10, two_size]
  | 3, _, _ => by simp [fin10, two_size, lastD_size]
  | 4, _, _ => by simp [fin10, two_size]
  | 5, _, _ => by simp [fin10, two_size, lastD_size]
  | 6, _, _ => by simp [fin10, two_size]
  | 7, _, _ => by simp [fin10, two_size, lastD_size]
  | m + 8, v, dk => by rw [fin10, fin10_size m]; simp [two_size]
/-- What holds at the head of a round: the places that are still to fill, the number that is left, the row. -/
structure Fmt (n : Nat) (T : Array UInt8) (nd v : Nat) (dk : Array UInt8) : Prop where
  size : dk.size = n
  le : nd ≤ n
  lt : v < 10 ^ (nd + 1)
  big : v < 18446744073709551616
  fin : fin10 nd v dk = T
theorem Fmt.round {n : Nat} {T : Array UInt8} {m v : Nat} {dk : Array UInt8} (h : Fmt n T (m + 8) v dk) :
    Fmt n T m (v / 100000000) (two (two (two (two dk (m + 6) v) (m + 4) (v / 100)) (m + 2) (v / 100 / 100)) m (v / 100 / 100 / 100)) := by
  refine ⟨by simp [two_size, h.size], by have := h.le; omega, ?_, by have := h.big; omega, h.fin⟩
  have h1 := h.lt
  rw [show m + 8 + 1 = (m + 1) + 8 by omega, Nat.pow_add] at h1
  exact Nat.div_lt_of_lt_mul (by rw [Nat.mul_comm]; exact h1)
theorem Fmt.small {n : Nat} {T : Array UInt8} {nd v : Nat} {dk : Array UInt8} (h : Fmt n T nd v dk) (h8 : nd < 8) : v < 100000000 := by
  have h1 := h.lt
  have h2 : 10 ^ (nd + 1) ≤ 10 ^ 8 := Nat.pow_le_pow_right (by omega) (by omega)
  omega
end Go.Proofs.YtjkmbfpjkppmnaaDoor
