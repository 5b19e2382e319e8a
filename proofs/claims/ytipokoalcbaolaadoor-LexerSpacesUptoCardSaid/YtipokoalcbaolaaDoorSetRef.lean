/- The contracts of byteset.Of and of the reference's Has and Of. -/
import Derived.Test.YtipokoalcbaolaaDoorSetMake
namespace Go.Proofs.YtipokoalcbaolaaDoor
open Go.RowKit
def lset (l : List Int) : Nat → Bool := fun i => l.any fun x => i == x.toNat
theorem lset_snoc (l : List Int) (x : Int) : lset (l ++ [x]) = ins (lset l) x.toNat := by
  funext i; unfold lset ins; rw [List.any_append]; simp
/- the reference's Has: the word is halved again and again -/
theorem has_mod (f : Nat → Bool) (i : Nat) : (setW f (i / 64) / 2 ^ (i % 64) % 2 == 1) = f i := by
  have hlo := setW_lo f (i / 64)
  have hhi := setW_hi f (i / 64)
  have hb := setW_bit f (i / 64) (i % 64) (by omega)
  rw [show 64 * (i / 64) + i % 64 = i from by omega] at hb
  rw [← hb]
  obtain ⟨n, hn⟩ := Int.eq_ofNat_of_zero_le hlo
  rw [hn, Int.toNat_natCast]
  have e : ((n : Int) / 2 ^ (i % 64)) = ((n / 2 ^ (i % 64) : Nat) : Int) := by
    rw [Int.natCast_ediv, Int.natCast_pow]; rfl
  rw [e, Nat.testBit, Nat.shiftRight_eq_div_pow, Nat.and_comm 1]
  rw [Bool.eq_iff_iff]
  simp only [beq_iff_eq, bne_iff_ne, ne_eq, Nat.and_one_is_mod]
  omega
theorem half (x : Int) (k : Nat) : x / 2 ^ (k + 1) = x / 2 ^ k / 2 := by
  rw [Int.pow_succ, Int.ediv_ediv_of_nonneg (Int.pow_nonneg (by omega))]
end Go.Proofs.YtipokoalcbaolaaDoor
