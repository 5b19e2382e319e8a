/- Plain facts on sets of bytes as four words of 64 bits: a set is told by the function that says which numbers are members. Nothing here speaks of a program. -/
import Derived.Laws.BitsAllLaws
namespace Go.Proofs.YtipokoalcbaolaaDoor

def bitsOf (f : Nat → Bool) : Nat → Nat
  | 0 => 0
  | n + 1 => bitsOf f n + (f n).toNat * 2 ^ n
theorem bitsOf_lt (f : Nat → Bool) (n : Nat) : bitsOf f n < 2 ^ n := by
  induction n with
  | zero => simp [bitsOf]
  | succ n ih =>
    unfold bitsOf
    have : (f n).toNat ≤ 1 := Bool.toNat_le _
    have h2 : (f n).toNat * 2 ^ n ≤ 1 * 2 ^ n := Nat.mul_le_mul_right _ this
    rw [Nat.pow_succ]; omega
theorem testBit_bitsOf (f : Nat → Bool) (n k : Nat) : (bitsOf f n).testBit k = (decide (k < n) && f k) := by
  induction n with
  | zero => simp [bitsOf]
  | succ n ih =>
    have hl := bitsOf_lt f n
    unfold bitsOf
    rw [Nat.add_comm, Nat.mul_comm, Nat.testBit_two_pow_mul_add _ hl]
    by_cases hk : k < n
    · simp [hk, ih, show k < n + 1 from by omega]
    · simp only [hk, if_false]
      by_cases he : k = n
      · subst he; cases f k <;> simp
      · have : k - n ≠ 0 := by omega
        have h1 : ¬ k < n + 1 := by omega
        simp only [h1, decide_false, Bool.false_and]
        cases f n
        · simp
        · obtain ⟨m, hm⟩ : ∃ m, k - n = m + 1 := ⟨k - n - 1, by omega⟩
          rw [hm]; simp [Nat.testBit_succ]
def setW (f : Nat → Bool) (k : Nat) : Int := ((bitsOf (fun j => f (64 * k + j)) 64 : Nat) : Int)
theorem setW_lo (f : Nat → Bool) (k : Nat) : 0 ≤ setW f k := by unfold setW; omega
theorem setW_hi (f : Nat → Bool) (k : Nat) : setW f k ≤ 18446744073709551615 := by
  have := bitsOf_lt (fun j => f (64 * k + j)) 64
  unfold setW; omega
theorem setW_bit (f : Nat → Bool) (k j : Nat) (hj : j < 64) : (setW f k).toNat.testBit j = f (64 * k + j) := by
  unfold setW; rw [Int.toNat_natCast, testBit_bitsOf]; simp [hj]
theorem word_ext {a b : Int} (ha : 0 ≤ a) (ha' : a ≤ 18446744073709551615) (hb : 0 ≤ b) (hb' : b ≤ 18446744073709551615) (h : ∀ j, j < 64 → a.toNat.testBit j = b.toNat.testBit j) : a = b := by
  have : a.toNat = b.toNat := by
    apply Nat.eq_of_testBit_eq
    intro i
    by_cases hi : i < 64
    · exact h i hi
    · have h64 : (2 : Nat) ^ 64 ≤ 2 ^ i := Nat.pow_le_pow_right (by omega) (by omega)
      rw [Nat.testBit_lt_two_pow (by omega), Nat.testBit_lt_two_pow (by omega)]
  omega
theorem setW_ext {a : Int} {f : Nat → Bool} {k : Nat} (ha : 0 ≤ a) (ha' : a ≤ 18446744073709551615) (h : ∀ j, j < 64 → a.toNat.testBit j = f (64 * k + j)) : a = setW f k :=
  word_ext ha ha' (setW_lo _ _) (setW_hi _ _) fun j hj => by rw [h j hj, setW_bit _ _ _ hj]
theorem setW_congr {f g : Nat → Bool} {k : Nat} (h : ∀ j, j < 64 → f (64 * k + j) = g (64 * k + j)) : setW f k = setW g k :=
  setW_ext (setW_lo _ _) (setW_hi _ _) fun j hj => by rw [setW_bit _ _ _ hj, h j hj]
theorem setW_congr' {f g : Nat → Bool} {k : Nat} (hk : k < 4) (h : ∀ i, i < 256 → f i = g i) : setW f k = setW g k :=
  setW_congr fun j hj => h _ (by omega)
theorem setW_inj {f g : Nat → Bool} (h0 : setW f 0 = setW g 0) (h1 : setW f 1 = setW g 1) (h2 : setW f 2 = setW g 2) (h3 : setW f 3 = setW g 3) (i : Nat) (hi : i < 256) : f i = g i := by
  have e : i = 64 * (i / 64) + i % 64 := by omega
  have hm : i % 64 < 64 := by omega
  have hk : i / 64 = 0 ∨ i / 64 = 1 ∨ i / 64 = 2 ∨ i / 64 = 3 := by omega
  rw [e, ← setW_bit f _ _ hm, ← setW_bit g _ _ hm]
  rcases hk with h | h | h | h <;> rw [h]
  · rw [h0]
  · rw [h1]
  · rw [h2]
  · rw [h3]
/-- Whatever four words are handed in, some function tells them. -/
theorem setW_some (a b c d : Int) (ha : 0 ≤ a ∧ a ≤ 18446744073709551615) (hb : 0 ≤ b ∧ b ≤ 18446744073709551615) (hc : 0 ≤ c ∧ c ≤ 18446744073709551615) (hd : 0 ≤ d ∧ d ≤ 18446744073709551615) :
    ∃ f : Nat → Bool, a = setW f 0 ∧ b = setW f 1 ∧ c = setW f 2 ∧ d = setW f 3 := by
  refine ⟨fun i => if i / 64 = 0 then a.toNat.testBit (i % 64) else if i / 64 = 1 then b.toNat.testBit (i % 64) else if i / 64 = 2 then c.toNat.testBit (i % 64) else d.toNat.testBit (i % 64), ?_, ?_, ?_, ?_⟩
  all_goals
    refine setW_ext (by omega) (by omega) fun j hj => ?_
    have e1 : (64 * 0 + j) / 64 = 0 := by omega
    have e2 : (64 * 1 + j) / 64 = 1 := by omega
    have e3 : (64 * 2 + j) / 64 = 2 := by omega
    have e4 : (64 * 3 + j) / 64 = 3 := by omega
    simp only [e1, e2, e3, e4, Nat.mul_add_mod, Nat.mod_eq_of_lt hj]
    simp
theorem has_bit (f : Nat → Bool) (i : Nat) : (bits BinOp.and IntKind.u64 (setW f (i / 64) / 2 ^ (i % 64)) 1 == 1) = f i := by
  have hlo := setW_lo f (i / 64)
  have hhi := setW_hi f (i / 64)
  have hb := setW_bit f (i / 64) (i % 64) (by omega)
  rw [show 64 * (i / 64) + i % 64 = i from by omega] at hb
  rw [← hb]
  obtain ⟨n, hn⟩ := Int.eq_ofNat_of_zero_le hlo
  rw [hn, Int.toNat_natCast]
  have e : ((n : Int) / 2 ^ (i % 64)) = ((n / 2 ^ (i % 64) : Nat) : Int) := by
    rw [Int.natCast_ediv, Int.natCast_pow]; rfl
  have hle : n / 2 ^ (i % 64) ≤ n := Nat.div_le_self _ _
  rw [e, show (1 : Int) = ((1 : Nat) : Int) from rfl, Go.u64_and_nat _ _ (by omega) (by omega)]
  rw [Nat.testBit, Nat.shiftRight_eq_div_pow, Nat.and_comm 1]
  rw [Bool.eq_iff_iff]
  simp only [beq_iff_eq, bne_iff_ne, ne_eq, Nat.and_one_is_mod]
  omega
theorem or_word (f g : Nat → Bool) (k : Nat) : bits BinOp.or IntKind.u64 (setW f k) (setW g k) = setW (fun i => f i || g i) k := by
  have a1 := setW_lo f k; have a2 := setW_hi f k; have b1 := setW_lo g k; have b2 := setW_hi g k
  rw [Go.u64_or _ _ a1 (by omega) b1 (by omega)]
  have hl : ((setW f k).toNat ||| (setW g k).toNat) < 2 ^ 64 := Nat.or_lt_two_pow (by omega) (by omega)
  refine setW_ext (by omega) (by omega) fun j hj => ?_
  rw [Int.toNat_natCast, Nat.testBit_or, setW_bit _ _ _ hj, setW_bit _ _ _ hj]
theorem and_word (f g : Nat → Bool) (k : Nat) : bits BinOp.and IntKind.u64 (setW f k) (setW g k) = setW (fun i => f i && g i) k := by
  have a1 := setW_lo f k; have a2 := setW_hi f k; have b1 := setW_lo g k; have b2 := setW_hi g k
  rw [Go.u64_and _ _ a1 (by omega) b1 (by omega)]
  have hl : ((setW f k).toNat &&& (setW g k).toNat) < 2 ^ 64 := Nat.and_lt_two_pow _ (by omega)
  refine setW_ext (by omega) (by omega) fun j hj => ?_
  rw [Int.toNat_natCast, Nat.testBit_and, setW_bit _ _ _ hj, setW_bit _ _ _ hj]
theorem not_word (f : Nat → Bool) (k : Nat) : bits BinOp.xor IntKind.u64 IntKind.u64.max (setW f k) = setW (fun i => !f i) k := by
  have a1 := setW_lo f k; have a2 := setW_hi f k
  rw [show IntKind.u64.max = (18446744073709551615 : Int) from rfl, Go.u64_xor _ _ (by omega) (by omega) a1 (by omega)]
  have hl : ((18446744073709551615 : Int).toNat ^^^ (setW f k).toNat) < 2 ^ 64 := Nat.xor_lt_two_pow (by decide) (by omega)
  refine setW_ext (by omega) (by omega) fun j hj => ?_
  rw [Int.toNat_natCast, Nat.testBit_xor, setW_bit _ _ _ hj]
  have : (18446744073709551615 : Int).toNat = 2 ^ 64 - 1 := by decide
  rw [this, Nat.testBit_two_pow_sub_one]; simp [hj]
end Go.Proofs.YtipokoalcbaolaaDoor
