/- The library's numDigits, whatever its table holds: one of two numbers. -/
import Derived.Test.YtjkmbfpjkppmnaaDoorShelfHere
import Derived.WalkKit
import Derived.Handy
import Derived.Lib.Hide
namespace Go.Proofs.YtjkmbfpjkppmnaaDoor
open Go.RowKit
/-- The number that numDigits returns, where the place that it reads holds t. -/
def ndOf (u : Nat) (t : Int) : Nat := Lib.l10 (Lib.bitLen u) + if t ≤ (u : Int) then 1 else 0
set_option maxHeartbeats 1000000 in
theorem numDigits_any (u : Nat) (h1 : 1 ≤ u) (h2 : u < 18446744073709551616) (t : Int) (w : World) (hcell : w.cell? ⟨2, Lib.l10 (Lib.bitLen u), none⟩ = some (.int .u64 t)) :
    Calls Tryd.prog 62 #[.int .u64 u] w fun e w' => e = .returned (.int .i64 (ndOf u t)) ∧ w' = w := by
  obtain ⟨-, h19⟩ := Lib.numDigits_eq u h1 h2
  have hL : Lib.bitLen u ≤ 64 := Lib.bitLen_le u 64 (Nat.le_refl _) h2
  have hto : ((u : Int)).toNat = u := by omega
  have hL' : Lib.bitLen ((u : Int)).toNat ≤ 64 := by rw [hto]; exact hL
  unfold ndOf
  have c1 := fun w => len64_any u w (by omega) (by omega)
  rw [hto] at c1
  have c2 := fun w => log10_any _ hL w
  generalize hq : Lib.l10 (Lib.bitLen u) = q at *
  have h20 : (q : Int) < 20 := by omega
  have C1 := Lib.hid c1
  have C2 := Lib.hid c2
  clear c1 c2 hq hL' hL hto h19
  go_enter Tryd.func62, Tryd.ntmps62
  go_wp2_with (first
    | (go_at_call 66; refine (C1.out _).mono ?_; rintro e w' ⟨rfl, hw⟩; obtain rfl := hw.symm; clear hw)
    | (go_at_call 65; refine (C2.out _).mono ?_; rintro e w' ⟨rfl, hw⟩; obtain rfl := hw.symm; clear hw)
    | (go_at_call 67; refine (bool2_any _ _).mono ?_; rintro e w' ⟨rfl, hw⟩; obtain rfl := hw.symm; clear hw))
  all_goals
    go_ret
    exact ⟨rfl, rfl⟩
theorem ndOf_le (u : Nat) (h1 : 1 ≤ u) (h2 : u < 18446744073709551616) (t : Int) : ndOf u t ≤ 20 := by
  obtain ⟨-, h19⟩ := Lib.numDigits_eq u h1 h2
  unfold ndOf
  split <;> omega
/-- One digit too few at most. -/
theorem lt_pow_ndOf (u : Nat) (h1 : 1 ≤ u) (h2 : u < 18446744073709551616) (t : Int) : u < 10 ^ (ndOf u t + 1) := by
  obtain ⟨hd, -⟩ := Lib.numDigits_eq u h1 h2
  have hp := Lib.lt_pow_nDigits u
  have h : Lib.nDigits u ≤ ndOf u t + 1 := by
    unfold ndOf
    rw [← hd]
    split <;> split <;> omega
  exact Nat.lt_of_lt_of_le hp (Nat.pow_le_pow_right (by omega) h)
end Go.Proofs.YtjkmbfpjkppmnaaDoor
