/- Sets of bytes: the arithmetic, the walks of byteset and of its reference, lists of bytes. -/
import Derived.Laws.BitsAllLaws
import Derived.Test.YtklimoepkifnhaaBase
import Derived.Test.YtklimoepkifnhaaProg
import Derived.WalkKit
import Derived.ProofKit
import Derived.Outline
import Derived.Handy
import Derived.Lib.Hide
import Derived.RegionTactic
import Derived.ChangeAlike
import Derived.Laws.AppendOwn
import Derived.Maps.AppendAt
namespace Go.Proofs.Ytklimoepkifnhaa
section

def bitsOf (f : Nat → Bool) : Nat → Nat
  | 0 => 0
  | n + 1 => bitsOf f n + (f n).toNat * 2 ^ n
theorem bitsOf_lt (f : Nat → Bool) (n : Nat) : bitsOf f n < 2 ^ n := by
  induction n with
  | zero => simp [bitsOf]
  | succ n ih =>
    unfold bitsOf
    have : (f n).toNat ≤ 1 := Bool.toNat_le _
    have h2 : (f n).toNat * 2 ^ n ≤ 1 * 2 ^ n := Nat.mul_le_mul_right _ this
    rw [Nat.pow_succ]; omega
theorem testBit_bitsOf (f : Nat → Bool) (n k : Nat) : (bitsOf f n).testBit k = (decide (k < n) && f k) := by
  induction n with
  | zero => simp [bitsOf]
  | succ n ih =>
    have hl := bitsOf_lt f n
    unfold bitsOf
    rw [Nat.add_comm, Nat.mul_comm, Nat.testBit_two_pow_mul_add _ hl]
    by_cases hk : k < n
    · simp [hk, ih, show k < n + 1 from by omega]
    · simp only [hk, if_false]
      by_cases he : k = n
      · subst he; cases f k <;> simp
      · have : k - n ≠ 0 := by omega
        have h1 : ¬ k < n + 1 := by omega
        simp only [h1, decide_false, Bool.false_and]
        cases f n
        · simp
        · obtain ⟨m, hm⟩ : ∃ m, k - n = m + 1 := ⟨k - n - 1, by omega⟩
          rw [hm]; simp [Nat.testBit_succ]
def setW (f : Nat → Bool) (k : Nat) : Int := ((bitsOf (fun j => f (64 * k + j)) 64 : Nat) : Int)
theorem setW_lo (f : Nat → Bool) (k : Nat) : 0 ≤ setW f k := by unfold setW; omega
theorem setW_hi (f : Nat → Bool) (k : Nat) : setW f k ≤ 18446744073709551615 := by
  have := bitsOf_lt (fun j => f (64 * k + j)) 64
  unfold setW; omega
theorem setW_bit (f : Nat → Bool) (k j : Nat) (hj : j < 64) : (setW f k).toNat.testBit j = f (64 * k + j) := by
  unfold setW; rw [Int.toNat_natCast, testBit_bitsOf]; simp [hj]
theorem word_ext {a b : Int} (ha : 0 ≤ a) (ha' : a ≤ 18446744073709551615) (hb : 0 ≤ b) (hb' : b ≤ 18446744073709551615) (h : ∀ j, j < 64 → a.toNat.testBit j = b.toNat.testBit j) : a = b := by
  have : a.toNat = b.toNat := by
    apply Nat.eq_of_testBit_eq
    intro i
    by_cases hi : i < 64
    · exact h i hi
    · have h64 : (2 : Nat) ^ 64 ≤ 2 ^ i := Nat.pow_le_pow_right (by omega) (by omega)
      rw [Nat.testBit_lt_two_pow (by omega), Nat.testBit_lt_two_pow (by omega)]
  omega
theorem setW_ext {a : Int} {f : Nat → Bool} {k : Nat} (ha : 0 ≤ a) (ha' : a ≤ 18446744073709551615) (h : ∀ j, j < 64 → a.toNat.testBit j = f (64 * k + j)) : a = setW f k :=
  word_ext ha ha' (setW_lo _ _) (setW_hi _ _) fun j hj => by rw [h j hj, setW_bit _ _ _ hj]
theorem setW_congr {f g : Nat → Bool} {k : Nat} (h : ∀ j, j < 64 → f (64 * k + j) = g (64 * k + j)) : setW f k = setW g k :=
  setW_ext (setW_lo _ _) (setW_hi _ _) fun j hj => by rw [setW_bit _ _ _ hj, h j hj]
theorem setW_congr' {f g : Nat → Bool} {k : Nat} (hk : k < 4) (h : ∀ i, i < 256 → f i = g i) : setW f k = setW g k :=
  setW_congr fun j hj => h _ (by omega)
theorem setW_inj {f g : Nat → Bool} (h0 : setW f 0 = setW g 0) (h1 : setW f 1 = setW g 1) (h2 : setW f 2 = setW g 2) (h3 : setW f 3 = setW g 3) (i : Nat) (hi : i < 256) : f i = g i := by
  have e : i = 64 * (i / 64) + i % 64 := by omega
  have hm : i % 64 < 64 := by omega
  have hk : i / 64 = 0 ∨ i / 64 = 1 ∨ i / 64 = 2 ∨ i / 64 = 3 := by omega
  rw [e, ← setW_bit f _ _ hm, ← setW_bit g _ _ hm]
  rcases hk with h | h | h | h <;> rw [h]
  · rw [h0]
  · rw [h1]
  · rw [h2]
  · rw [h3]
/-- Whatever four words are handed in, some function tells them. -/
theorem setW_some (a b c d : Int) (ha : 0 ≤ a ∧ a ≤ 18446744073709551615) (hb : 0 ≤ b ∧ b ≤ 18446744073709551615) (hc : 0 ≤ c ∧ c ≤ 18446744073709551615) (hd : 0 ≤ d ∧ d ≤ 18446744073709551615) :
    ∃ f : Nat → Bool, a = setW f 0 ∧ b = setW f 1 ∧ c = setW f 2 ∧ d = setW f 3 := by
  refine ⟨fun i => if i / 64 = 0 then a.toNat.testBit (i % 64) else if i / 64 = 1 then b.toNat.testBit (i % 64) else if i / 64 = 2 then c.toNat.testBit (i % 64) else d.toNat.testBit (i % 64), ?_, ?_, ?_, ?_⟩
  all_goals
    refine setW_ext (by omega) (by omega) fun j hj => ?_
    have e1 : (64 * 0 + j) / 64 = 0 := by omega
    have e2 : (64 * 1 + j) / 64 = 1 := by omega
    have e3 : (64 * 2 + j) / 64 = 2 := by omega
    have e4 : (64 * 3 + j) / 64 = 3 := by omega
    simp only [e1, e2, e3, e4, Nat.mul_add_mod, Nat.mod_eq_of_lt hj]
    simp
theorem has_bit (f : Nat → Bool) (i : Nat) : (bits BinOp.and IntKind.u64 (setW f (i / 64) / 2 ^ (i % 64)) 1 == 1) = f i := by
  have hlo := setW_lo f (i / 64)
  have hhi := setW_hi f (i / 64)
  have hb := setW_bit f (i / 64) (i % 64) (by omega)
  rw [show 64 * (i / 64) + i % 64 = i from by omega] at hb
  rw [← hb]
  obtain ⟨n, hn⟩ := Int.eq_ofNat_of_zero_le hlo
  rw [hn, Int.toNat_natCast]
  have e : ((n : Int) / 2 ^ (i % 64)) = ((n / 2 ^ (i % 64) : Nat) : Int) := by
    rw [Int.natCast_ediv, Int.natCast_pow]; rfl
  have hle : n / 2 ^ (i % 64) ≤ n := Nat.div_le_self _ _
  rw [e, show (1 : Int) = ((1 : Nat) : Int) from rfl, Go.u64_and_nat _ _ (by omega) (by omega)]
  rw [Nat.testBit, Nat.shiftRight_eq_div_pow, Nat.and_comm 1]
  rw [Bool.eq_iff_iff]
  simp only [beq_iff_eq, bne_iff_ne, ne_eq, Nat.and_one_is_mod]
  omega
theorem or_word (f g : Nat → Bool) (k : Nat) : bits BinOp.or IntKind.u64 (setW f k) (setW g k) = setW (fun i => f i || g i) k := by
  have a1 := setW_lo f k; have a2 := setW_hi f k; have b1 := setW_lo g k; have b2 := setW_hi g k
  rw [Go.u64_or _ _ a1 (by omega) b1 (by omega)]
  have hl : ((setW f k).toNat ||| (setW g k).toNat) < 2 ^ 64 := Nat.or_lt_two_pow (by omega) (by omega)
  refine setW_ext (by omega) (by omega) fun j hj => ?_
  rw [Int.toNat_natCast, Nat.testBit_or, setW_bit _ _ _ hj, setW_bit _ _ _ hj]
theorem and_word (f g : Nat → Bool) (k : Nat) : bits BinOp.and IntKind.u64 (setW f k) (setW g k) = setW (fun i => f i && g i) k := by
  have a1 := setW_lo f k; have a2 := setW_hi f k; have b1 := setW_lo g k; have b2 := setW_hi g k
  rw [Go.u64_and _ _ a1 (by omega) b1 (by omega)]
  have hl : ((setW f k).toNat &&& (setW g k).toNat) < 2 ^ 64 := Nat.and_lt_two_pow _ (by omega)
  refine setW_ext (by omega) (by omega) fun j hj => ?_
  rw [Int.toNat_natCast, Nat.testBit_and, setW_bit _ _ _ hj, setW_bit _ _ _ hj]
theorem not_word (f : Nat → Bool) (k : Nat) : bits BinOp.xor IntKind.u64 IntKind.u64.max (setW f k) = setW (fun i => !f i) k := by
  have a1 := setW_lo f k; have a2 := setW_hi f k
  rw [show IntKind.u64.max = (18446744073709551615 : Int) from rfl, Go.u64_xor _ _ (by omega) (by omega) a1 (by omega)]
  have hl : ((18446744073709551615 : Int).toNat ^^^ (setW f k).toNat) < 2 ^ 64 := Nat.xor_lt_two_pow (by decide) (by omega)
  refine setW_ext (by omega) (by omega) fun j hj => ?_
  rw [Int.toNat_natCast, Nat.testBit_xor, setW_bit _ _ _ hj]
  have : (18446744073709551615 : Int).toNat = 2 ^ 64 - 1 := by decide
  rw [this, Nat.testBit_two_pow_sub_one]; simp [hj]
end
section

def cnt (f : Nat → Bool) : Nat → Nat
  | 0 => 0
  | n + 1 => cnt f n + (f n).toNat
theorem cnt_le (f : Nat → Bool) (n : Nat) : cnt f n ≤ n := by
  induction n with
  | zero => simp [cnt]
  | succ n ih => unfold cnt; have : (f n).toNat ≤ 1 := Bool.toNat_le _; omega
theorem cnt_add (f : Nat → Bool) (m n : Nat) : cnt f (m + n) = cnt f m + cnt (fun i => f (m + i)) n := by
  induction n with
  | zero => simp [cnt]
  | succ n ih => rw [← Nat.add_assoc]; show cnt f (m + n) + _ = _ + (cnt _ n + _); rw [ih]; exact Nat.add_assoc _ _ _
theorem cnt_congr {f g : Nat → Bool} {n : Nat} (h : ∀ i, i < n → f i = g i) : cnt f n = cnt g n := by
  induction n with
  | zero => rfl
  | succ n ih => unfold cnt; rw [ih fun i hi => h i (by omega), h n (by omega)]
theorem cnt_not (f : Nat → Bool) (n : Nat) : cnt f n + cnt (fun i => !f i) n = n := by
  induction n with
  | zero => rfl
  | succ n ih => unfold cnt; cases f n <;> simp <;> omega
/-- the steps, on natural numbers -/
def p1 (m x : Nat) : Nat := ((x / 2) &&& m) + (x &&& m)
def p2 (m x : Nat) : Nat := ((x / 4) &&& m) + (x &&& m)
def p3 (m x : Nat) : Nat := (x / 16 + x) &&& m
theorem land_byte (a m x y : Nat) (ha : a < 256) (hm : m < 256) : (a + 256 * x) &&& (m + 256 * y) = (a &&& m) + 256 * (x &&& y) := by
  have hl : a &&& m < 2 ^ 8 := Nat.and_lt_two_pow _ (by omega)
  apply Nat.eq_of_testBit_eq
  intro i
  rw [Nat.testBit_and, show a + 256 * x = 2 ^ 8 * x + a from by omega, show m + 256 * y = 2 ^ 8 * y + m from by omega, show (a &&& m) + 256 * (x &&& y) = 2 ^ 8 * (x &&& y) + (a &&& m) from by omega,
    Nat.testBit_two_pow_mul_add _ (by omega), Nat.testBit_two_pow_mul_add _ (by omega), Nat.testBit_two_pow_mul_add _ hl]
  by_cases h : i < 8 <;> simp [h]
theorem p1_byte (a m x : Nat) (ha : a < 256) : p1 (85 + 256 * m) (a + 256 * x) = p1 85 a + 256 * p1 m x := by
  unfold p1
  have e : (a + 256 * x) / 2 = (a / 2 + 128 * (x % 2)) + 256 * (x / 2) := by omega
  have key : ∀ a, a < 256 → ∀ t, t < 2 → ((a / 2 + 128 * t) &&& 85) = ((a / 2) &&& 85) := by decide +kernel
  rw [e, land_byte _ _ _ _ (by omega) (by omega), land_byte _ _ _ _ ha (by omega), key a ha _ (by omega)]
  omega
theorem p2_byte (a m x : Nat) (ha : a < 256) : p2 (51 + 256 * m) (a + 256 * x) = p2 51 a + 256 * p2 m x := by
  unfold p2
  have e : (a + 256 * x) / 4 = (a / 4 + 64 * (x % 4)) + 256 * (x / 4) := by omega
  have key : ∀ a, a < 256 → ∀ t, t < 4 → ((a / 4 + 64 * t) &&& 51) = ((a / 4) &&& 51) := by decide +kernel
  rw [e, land_byte _ _ _ _ (by omega) (by omega), land_byte _ _ _ _ ha (by omega), key a ha _ (by omega)]
  omega
/-- the third step keeps its bytes apart where no half of a byte is above 4 -/
def nib (x : Nat) : Prop := x % 16 ≤ 4 ∧ x / 16 ≤ 4
theorem p3_byte (a m x t : Nat) (ha : nib a) (ht : x % 16 = t) (h4 : t ≤ 4) : p3 (15 + 256 * m) (a + 256 * x) = p3 15 a + 256 * p3 m x := by
  unfold p3
  obtain ⟨h1, h2⟩ := ha
  have e : (a + 256 * x) / 16 + (a + 256 * x) = (a / 16 + 16 * t + a) + 256 * (x / 16 + x) := by omega
  have key : ∀ a, a < 80 → ∀ t, t < 5 → a % 16 ≤ 4 → ((a / 16 + 16 * t + a) &&& 15) = ((a / 16 + a) &&& 15) := by decide +kernel
  rw [e, land_byte _ _ _ _ (by omega) (by omega), key a (by omega) t (by omega) h1]
/-- eight bytes, the lowest first -/
def by8 (a b c d e f g h : Nat) : Nat := a + 256 * (b + 256 * (c + 256 * (d + 256 * (e + 256 * (f + 256 * (g + 256 * h))))))
theorem by8_some (x : Nat) (hx : x < 18446744073709551616) : ∃ a b c d e f g h, x = by8 a b c d e f g h ∧ a < 256 ∧ b < 256 ∧ c < 256 ∧ d < 256 ∧ e < 256 ∧ f < 256 ∧ g < 256 ∧ h < 256 := by
  refine ⟨x % 256, x / 256 % 256, x / 65536 % 256, x / 16777216 % 256, x / 4294967296 % 256, x / 1099511627776 % 256, x / 281474976710656 % 256, x / 72057594037927936, ?_, ?_, ?_, ?_, ?_, ?_, ?_, ?_, ?_⟩
  · unfold by8; omega
  all_goals omega
def pop8 (a : Nat) : Nat := p3 15 (p2 51 (p1 85 a))
theorem pop8_facts : ∀ a, a < 256 → p1 85 a < 256 ∧ nib (p2 51 (p1 85 a)) ∧ p2 51 (p1 85 a) % 16 ≤ 4 ∧ pop8 a = cnt (fun k => a.testBit k) 8 ∧ pop8 a ≤ 8 := by
  unfold nib; decide +kernel
theorem p1_by8 (a b c d e f g h : Nat) (ha : a < 256) (hb : b < 256) (hc : c < 256) (hd : d < 256) (he : e < 256) (hf : f < 256) (hg : g < 256) :
    p1 6148914691236517205 (by8 a b c d e f g h) = by8 (p1 85 a) (p1 85 b) (p1 85 c) (p1 85 d) (p1 85 e) (p1 85 f) (p1 85 g) (p1 85 h) := by
  unfold by8
  rw [show (6148914691236517205 : Nat) = 85 + 256 * (85 + 256 * (85 + 256 * (85 + 256 * (85 + 256 * (85 + 256 * (85 + 256 * 85)))))) from rfl]
  rw [p1_byte _ _ _ ha, p1_byte _ _ _ hb, p1_byte _ _ _ hc, p1_byte _ _ _ hd, p1_byte _ _ _ he, p1_byte _ _ _ hf, p1_byte _ _ _ hg]
theorem p2_by8 (a b c d e f g h : Nat) (ha : a < 256) (hb : b < 256) (hc : c < 256) (hd : d < 256) (he : e < 256) (hf : f < 256) (hg : g < 256) :
    p2 3689348814741910323 (by8 a b c d e f g h) = by8 (p2 51 a) (p2 51 b) (p2 51 c) (p2 51 d) (p2 51 e) (p2 51 f) (p2 51 g) (p2 51 h) := by
  unfold by8
  rw [show (3689348814741910323 : Nat) = 51 + 256 * (51 + 256 * (51 + 256 * (51 + 256 * (51 + 256 * (51 + 256 * (51 + 256 * 51)))))) from rfl]
  rw [p2_byte _ _ _ ha, p2_byte _ _ _ hb, p2_byte _ _ _ hc, p2_byte _ _ _ hd, p2_byte _ _ _ he, p2_byte _ _ _ hf, p2_byte _ _ _ hg]
theorem p3_by8 (a b c d e f g h : Nat) (ha : nib a) (hb : nib b) (hc : nib c) (hd : nib d) (he : nib e) (hf : nib f) (hg : nib g) (hh : nib h) :
    p3 1085102592571150095 (by8 a b c d e f g h) = by8 (p3 15 a) (p3 15 b) (p3 15 c) (p3 15 d) (p3 15 e) (p3 15 f) (p3 15 g) (p3 15 h) := by
  unfold by8
  have k : ∀ x y : Nat, (x + 256 * y) % 16 = x % 16 := fun x y => by omega
  rw [show (1085102592571150095 : Nat) = 15 + 256 * (15 + 256 * (15 + 256 * (15 + 256 * (15 + 256 * (15 + 256 * (15 + 256 * 15)))))) from rfl]
  rw [p3_byte _ _ _ _ ha (k _ _) hb.1, p3_byte _ _ _ _ hb (k _ _) hc.1, p3_byte _ _ _ _ hc (k _ _) hd.1, p3_byte _ _ _ _ hd (k _ _) he.1, p3_byte _ _ _ _ he (k _ _) hf.1, p3_byte _ _ _ _ hf (k _ _) hg.1, p3_byte _ _ _ _ hg rfl hh.1]
theorem by8_add (a b c d e f g h a' b' c' d' e' f' g' h' : Nat) : by8 a b c d e f g h + by8 a' b' c' d' e' f' g' h' = by8 (a + a') (b + b') (c + c') (d + d') (e + e') (f + f') (g + g') (h + h') := by
  unfold by8; omega
theorem by8_q1 (a b c d e f g h : Nat) (ha : a < 256) : by8 a b c d e f g h / 256 = by8 b c d e f g h 0 := by
  have : ∀ u v : Nat, u < 256 → (u + 256 * v) / 256 = v := fun u v h => by omega
  unfold by8; rw [this _ _ ha]; simp
theorem by8_q2 (a b c d e f g h : Nat) (ha : a < 256) (hb : b < 256) : by8 a b c d e f g h / 65536 = by8 c d e f g h 0 0 := by
  have : ∀ u v r : Nat, u < 256 → v < 256 → (u + 256 * (v + 256 * r)) / 65536 = r := fun u v r h h' => by omega
  unfold by8; rw [this _ _ _ ha hb]; simp
theorem by8_q4 (a b c d e f g h : Nat) (ha : a < 256) (hb : b < 256) (hc : c < 256) (hd : d < 256) : by8 a b c d e f g h / 4294967296 = by8 e f g h 0 0 0 0 := by
  have : ∀ u v r s q : Nat, u < 256 → v < 256 → r < 256 → s < 256 → (u + 256 * (v + 256 * (r + 256 * (s + 256 * q)))) / 4294967296 = q := fun u v r s q h1 h2 h3 h4 => by omega
  unfold by8; rw [this _ _ _ _ _ ha hb hc hd]; simp
theorem by8_m (a b c d e f g h : Nat) : by8 a b c d e f g h % 128 = a % 128 := by
  have : ∀ u v : Nat, (u + 256 * v) % 128 = u % 128 := fun u v => by omega
  unfold by8; rw [this]
theorem by8_le (a b c d e f g h k : Nat) (ha : a ≤ 8) (hb : b ≤ 8) (hc : c ≤ 8) (hd : d ≤ 8) (he : e ≤ 8) (hf : f ≤ 8) (hg : g ≤ 8) (hh : h ≤ 8) (hk : by8 8 8 8 8 8 8 8 8 ≤ k) : by8 a b c d e f g h ≤ k := by
  unfold by8 at *; omega
theorem sum_by8 (a b c d e f g h : Nat) (ha : a ≤ 8) (hb : b ≤ 8) (hc : c ≤ 8) (hd : d ≤ 8) (he : e ≤ 8) (hf : f ≤ 8) (hg : g ≤ 8) (hh : h ≤ 8) (x y z t : Nat)
    (hx : x = by8 a b c d e f g h) (hy : y = x + x / 256) (hz : z = y + y / 65536) (ht : t = z + z / 4294967296) : x ≤ 578721382704613384 ∧ y ≤ 581000000000000000 ∧ z ≤ 582000000000000000 ∧ t ≤ 583000000000000000 ∧ t % 128 = a + b + c + d + e + f + g + h := by
  have e1 : x / 256 = by8 b c d e f g h 0 := by rw [hx]; exact by8_q1 _ _ _ _ _ _ _ _ (by omega)
  have ey : y = by8 (a + b) (b + c) (c + d) (d + e) (e + f) (f + g) (g + h) h := by
    rw [hy, e1, hx, by8_add]; rfl
  have e2 : y / 65536 = by8 (c + d) (d + e) (e + f) (f + g) (g + h) h 0 0 := by rw [ey]; exact by8_q2 _ _ _ _ _ _ _ _ (by omega) (by omega)
  have ez : z = by8 (a + b + (c + d)) (b + c + (d + e)) (c + d + (e + f)) (d + e + (f + g)) (e + f + (g + h)) (f + g + h) (g + h) h := by
    rw [hz, e2, ey, by8_add]; rfl
  have e4 : z / 4294967296 = by8 (e + f + (g + h)) (f + g + h) (g + h) h 0 0 0 0 := by rw [ez]; exact by8_q4 _ _ _ _ _ _ _ _ (by omega) (by omega) (by omega) (by omega)
  have et : t = by8 (a + b + (c + d) + (e + f + (g + h))) (b + c + (d + e) + (f + g + h)) (c + d + (e + f) + (g + h)) (d + e + (f + g) + h) (e + f + (g + h)) (f + g + h) (g + h) h := by
    rw [ht, e4, ez, by8_add]; rfl
  have b0 : x ≤ 578721382704613384 := by rw [hx]; exact by8_le _ _ _ _ _ _ _ _ _ ha hb hc hd he hf hg hh (by decide)
  refine ⟨b0, ?_, ?_, ?_, ?_⟩
  · clear ez et e1 e2 e4 ey; omega
  · clear ez et e1 e2 e4 ey; omega
  · clear ez et e1 e2 e4 ey; omega
  · rw [et, by8_m, Nat.mod_eq_of_lt (by omega)]; omega
theorem cnt_by8 (a b c d e f g h : Nat) (ha : a < 256) (hb : b < 256) (hc : c < 256) (hd : d < 256) (he : e < 256) (hf : f < 256) (hg : g < 256) (hh : h < 256) :
    cnt (fun k => (by8 a b c d e f g h).testBit k) 64 = pop8 a + pop8 b + pop8 c + pop8 d + pop8 e + pop8 f + pop8 g + pop8 h := by
  have step : ∀ (a y n : Nat), a < 256 → cnt (fun k => (a + 256 * y).testBit k) (8 + n) = pop8 a + cnt (fun k => y.testBit k) n := by
    intro a y n ha
    have hb : ∀ i, (a + 256 * y).testBit i = if i < 8 then a.testBit i else y.testBit (i - 8) := fun i => by
      rw [show a + 256 * y = 2 ^ 8 * y + a from by omega, Nat.testBit_two_pow_mul_add _ (by omega)]
    rw [cnt_add, (pop8_facts a ha).2.2.2.1]
    congr 1
    · exact cnt_congr fun i hi => by rw [hb, if_pos hi]
    · exact cnt_congr fun i _ => by rw [hb, if_neg (by omega)]; congr 1; omega
  unfold by8
  rw [show (64 : Nat) = 8 + (8 + (8 + (8 + (8 + (8 + (8 + 8)))))) from rfl, step _ _ _ ha, step _ _ _ hb, step _ _ _ hc, step _ _ _ hd, step _ _ _ he, step _ _ _ hf, step _ _ _ hg, (pop8_facts h hh).2.2.2.1]
  omega
/-- the steps as the walk writes them -/
def oc1 (x : Int) : Int := IntKind.u64.wrap (bits BinOp.and IntKind.u64 (x / 2) 6148914691236517205 + bits BinOp.and IntKind.u64 x 6148914691236517205)
def oc2 (x : Int) : Int := IntKind.u64.wrap (bits BinOp.and IntKind.u64 (x / 4) 3689348814741910323 + bits BinOp.and IntKind.u64 x 3689348814741910323)
def oc3 (x : Int) : Int := bits BinOp.and IntKind.u64 (IntKind.u64.wrap (x / 16 + x)) 1085102592571150095
def ocS (k x : Int) : Int := IntKind.u64.wrap (x + x / k)
def ocE (x : Int) : Int := ocS 4294967296 (ocS 65536 (ocS 256 (oc3 (oc2 (oc1 x)))))
theorem wrap_u64_of (n : Int) (h0 : 0 ≤ n) (h1 : n < 18446744073709551616) : IntKind.u64.wrap n = n := by
  rw [IntKind.wrap_u64]; omega
theorem by8_lt (a b c d e f g h : Nat) (ha : a < 256) (hb : b < 256) (hc : c < 256) (hd : d < 256) (he : e < 256) (hf : f < 256) (hg : g < 256) (hh : h < 256) : by8 a b c d e f g h < 18446744073709551616 := by
  unfold by8; omega
theorem oc1_nat (x : Nat) (hx : x < 18446744073709551616) (h : p1 6148914691236517205 x < 18446744073709551616) : oc1 (x : Int) = (p1 6148914691236517205 x : Nat) := by
  unfold oc1 p1 at *
  have e : ((x : Int) / 2) = ((x / 2 : Nat) : Int) := by omega
  rw [e, show (6148914691236517205 : Int) = ((6148914691236517205 : Nat) : Int) from rfl, Go.u64_and_nat _ _ (by omega) (by omega), Go.u64_and_nat _ _ (by omega) (by omega), wrap_u64_of _ (by omega) (by omega)]
  omega
theorem oc2_nat (x : Nat) (hx : x < 18446744073709551616) (h : p2 3689348814741910323 x < 18446744073709551616) : oc2 (x : Int) = (p2 3689348814741910323 x : Nat) := by
  unfold oc2 p2 at *
  have e : ((x : Int) / 4) = ((x / 4 : Nat) : Int) := by omega
  rw [e, show (3689348814741910323 : Int) = ((3689348814741910323 : Nat) : Int) from rfl, Go.u64_and_nat _ _ (by omega) (by omega), Go.u64_and_nat _ _ (by omega) (by omega), wrap_u64_of _ (by omega) (by omega)]
  omega
theorem oc3_nat (x : Nat) (hx : x / 16 + x < 18446744073709551616) : oc3 (x : Int) = (p3 1085102592571150095 x : Nat) := by
  unfold oc3 p3
  have e : ((x : Int) / 16 + x) = ((x / 16 + x : Nat) : Int) := by omega
  rw [e, wrap_u64_of _ (by omega) (by omega), show (1085102592571150095 : Int) = ((1085102592571150095 : Nat) : Int) from rfl, Go.u64_and_nat _ _ (by omega) (by omega)]
theorem nib_lt {a : Nat} (h : nib a) : a ≤ 68 := by unfold nib at h; omega
theorem ocE_nat (x : Nat) (hx : x < 18446744073709551616) : 0 ≤ ocE (x : Int) ∧ ocE (x : Int) ≤ 583000000000000000 ∧ ocE (x : Int) % 128 = (cnt (fun k => x.testBit k) 64 : Nat) := by
  obtain ⟨a, b, c, d, e, f, g, h, rfl, ha, hb, hc, hd, he, hf, hg, hh⟩ := by8_some x hx
  obtain ⟨a1, a2, -, -, a4⟩ := pop8_facts a ha
  obtain ⟨b1, b2, -, -, b4⟩ := pop8_facts b hb
  obtain ⟨c1, c2, -, -, c4⟩ := pop8_facts c hc
  obtain ⟨d1, d2, -, -, d4⟩ := pop8_facts d hd
  obtain ⟨e1, e2, -, -, e4⟩ := pop8_facts e he
  obtain ⟨f1, f2, -, -, f4⟩ := pop8_facts f hf
  obtain ⟨g1, g2, -, -, g4⟩ := pop8_facts g hg
  obtain ⟨h1, h2, -, -, h4⟩ := pop8_facts h hh
  have P1 := p1_by8 a b c d e f g h ha hb hc hd he hf hg
  have L1 := by8_lt _ _ _ _ _ _ _ _ a1 b1 c1 d1 e1 f1 g1 h1
  have P2 := p2_by8 _ _ _ _ _ _ _ (p1 85 h) a1 b1 c1 d1 e1 f1 g1
  have L2 := by8_lt (p2 51 (p1 85 a)) (p2 51 (p1 85 b)) (p2 51 (p1 85 c)) (p2 51 (p1 85 d)) (p2 51 (p1 85 e)) (p2 51 (p1 85 f)) (p2 51 (p1 85 g)) (p2 51 (p1 85 h))
    (by have := nib_lt a2; omega) (by have := nib_lt b2; omega) (by have := nib_lt c2; omega) (by have := nib_lt d2; omega) (by have := nib_lt e2; omega) (by have := nib_lt f2; omega) (by have := nib_lt g2; omega) (by have := nib_lt h2; omega)
  have P3 := p3_by8 _ _ _ _ _ _ _ _ a2 b2 c2 d2 e2 f2 g2 h2
  have B2 : by8 (p2 51 (p1 85 a)) (p2 51 (p1 85 b)) (p2 51 (p1 85 c)) (p2 51 (p1 85 d)) (p2 51 (p1 85 e)) (p2 51 (p1 85 f)) (p2 51 (p1 85 g)) (p2 51 (p1 85 h)) ≤ 4919131752989213764 := by
    have := nib_lt a2; have := nib_lt b2; have := nib_lt c2; have := nib_lt d2; have := nib_lt e2; have := nib_lt f2; have := nib_lt g2; have := nib_lt h2
    unfold by8; omega
  have C := cnt_by8 a b c d e f g h ha hb hc hd he hf hg hh
  obtain ⟨S1, S2, S3, S4, S5⟩ := sum_by8 (pop8 a) (pop8 b) (pop8 c) (pop8 d) (pop8 e) (pop8 f) (pop8 g) (pop8 h) a4 b4 c4 d4 e4 f4 g4 h4 _ _ _ _ rfl rfl rfl rfl
  unfold ocE
  rw [oc1_nat _ hx (by rw [P1]; exact L1), P1, oc2_nat _ L1 (by rw [P2]; exact L2), P2, oc3_nat _ (by omega), P3, C]
  change _ ∧ _ ∧ _
  generalize hX : by8 (p3 15 (p2 51 (p1 85 a))) (p3 15 (p2 51 (p1 85 b))) (p3 15 (p2 51 (p1 85 c))) (p3 15 (p2 51 (p1 85 d))) (p3 15 (p2 51 (p1 85 e))) (p3 15 (p2 51 (p1 85 f))) (p3 15 (p2 51 (p1 85 g))) (p3 15 (p2 51 (p1 85 h))) = X
  have hX' : by8 (pop8 a) (pop8 b) (pop8 c) (pop8 d) (pop8 e) (pop8 f) (pop8 g) (pop8 h) = X := hX
  rw [hX'] at S1 S2 S3 S4 S5
  clear hX hX' P1 P2 P3 L1 L2 B2 C
  unfold ocS
  rw [wrap_u64_of ((X : Int) + X / 256) (by omega) (by omega)]
  rw [wrap_u64_of ((X : Int) + X / 256 + ((X : Int) + X / 256) / 65536) (by omega) (by omega)]
  rw [wrap_u64_of _ (by omega) (by omega)]
  refine ⟨by omega, by omega, ?_⟩
  rw [← S5]
  omega
end
section
open Go.RowKit
theorem ix0 (x y z u : Value) (w : World) : (Instr.index 35 (.agg #[x, y, z, u]) (.int .i64 0)).run Try.prog w = .ok x w := by kernel_rfl
theorem ix1 (x y z u : Value) (w : World) : (Instr.index 35 (.agg #[x, y, z, u]) (.int .i64 1)).run Try.prog w = .ok y w := by kernel_rfl
theorem ix2 (x y z u : Value) (w : World) : (Instr.index 35 (.agg #[x, y, z, u]) (.int .i64 2)).run Try.prog w = .ok z w := by kernel_rfl
theorem ix3 (x y z u : Value) (w : World) : (Instr.index 35 (.agg #[x, y, z, u]) (.int .i64 3)).run Try.prog w = .ok u w := by kernel_rfl
theorem cells4 {n : Nat} {w w1 : World} {x y z u : Value} {t : TypeId} (hb : Below n (w.alloc (.cells #[x, y, z, u] t)) w1) (hn : w.heap.size < n) :
    w1.cell? ⟨w.heap.size, 0, none⟩ = some x ∧ w1.cell? ⟨w.heap.size, 1, none⟩ = some y ∧ w1.cell? ⟨w.heap.size, 2, none⟩ = some z ∧ w1.cell? ⟨w.heap.size, 3, none⟩ = some u := by
  refine ⟨?_, ?_, ?_, ?_⟩
  · rw [(bcell hb).1 _ _ hn]; simp
  · rw [(bcell hb).1 _ _ hn]; simp
  · rw [(bcell hb).1 _ _ hn]; simp
  · rw [(bcell hb).1 _ _ hn]; simp
theorem set_at (f : Nat → Bool) (c : Int) (h0 : 0 ≤ c) (h1 : c ≤ 255) : [Value.int IntKind.u64 (setW f 0), Value.int IntKind.u64 (setW f 1), Value.int IntKind.u64 (setW f 2), Value.int IntKind.u64 (setW f 3)][(c / 64).toNat]? = some (.int .u64 (setW f (c / 64).toNat)) := by
  have : c / 64 = 0 ∨ c / 64 = 1 ∨ c / 64 = 2 ∨ c / 64 = 3 := by omega
  rcases this with h | h | h | h <;> rw [h] <;> rfl
set_option maxHeartbeats 400000 in
theorem has_any (f : Nat → Bool) (c : Int) (w : World) (h0 : 0 ≤ c) (h1 : c ≤ 255) :
    Calls Try.prog 50 #[.agg #[.int .u64 (setW f 0), .int .u64 (setW f 1), .int .u64 (setW f 2), .int .u64 (setW f 3)], .int .u8 c] w fun e w' => e = .returned (.bool (f c.toNat)) ∧ Below w.heap.size w w' := by
  have hi := set_at f c h0 h1
  have l0 := setW_lo f (c / 64).toNat
  have l1 := setW_hi f (c / 64).toNat
  have hb := has_bit f c.toNat
  rw [show c.toNat / 64 = (c / 64).toNat from by omega, show c.toNat % 64 = (c % 64).toNat from by omega] at hb
  have HB := Lib.hid hb
  clear hb
  go_enter Try.func50, Try.ntmps50
  go_wp2
  go_ret
  exact ⟨ret_bool HB.out, by go_grown⟩
theorem ret_set {a b c d a' b' c' d' : Int} (h0 : a = a') (h1 : b = b') (h2 : c = c') (h3 : d = d') : Ending.returned (.agg #[.int .u64 a, .int .u64 b, .int .u64 c, .int .u64 d]) = .returned (.agg #[.int .u64 a', .int .u64 b', .int .u64 c', .int .u64 d']) := by rw [h0, h1, h2, h3]
set_option maxHeartbeats 400000 in
theorem union_any (f g : Nat → Bool) (w : World) :
    Calls Try.prog 30 #[.agg #[.int .u64 (setW f 0), .int .u64 (setW f 1), .int .u64 (setW f 2), .int .u64 (setW f 3)], .agg #[.int .u64 (setW g 0), .int .u64 (setW g 1), .int .u64 (setW g 2), .int .u64 (setW g 3)]] w
      fun e w' => e = .returned (.agg #[.int .u64 (setW (fun i => f i || g i) 0), .int .u64 (setW (fun i => f i || g i) 1), .int .u64 (setW (fun i => f i || g i) 2), .int .u64 (setW (fun i => f i || g i) 3)]) ∧ Below w.heap.size w w' := by
  have i0 := ix0
  have i1 := ix1
  have i2 := ix2
  have i3 := ix3
  go_enter Try.func30, Try.ntmps30
  go_wp2
  go_rounds 5
  go_returns
  exact ⟨ret_set (or_word _ _ _) (or_word _ _ _) (or_word _ _ _) (or_word _ _ _), by go_grown⟩
theorem setW_none (k : Nat) : setW (fun _ => false) k = 0 := by
  have : bitsOf (fun _ => false) 64 = 0 := by decide +kernel
  unfold setW; rw [this]; rfl
theorem cnt_four (f : Nat → Bool) : cnt f 256 = cnt (fun j => f (64 * 0 + j)) 64 + cnt (fun j => f (64 * 1 + j)) 64 + cnt (fun j => f (64 * 2 + j)) 64 + cnt (fun j => f (64 * 3 + j)) 64 := by
  have h1 : cnt f 256 = cnt f 64 + cnt (fun i => f (64 + i)) 192 := cnt_add f 64 192
  have h2 : cnt (fun i => f (64 + i)) 192 = cnt (fun i => f (64 + i)) 64 + cnt (fun i => f (64 + (64 + i))) 128 := cnt_add (fun i => f (64 + i)) 64 128
  have h3 : cnt (fun i => f (64 + (64 + i))) 128 = cnt (fun i => f (64 + (64 + i))) 64 + cnt (fun i => f (64 + (64 + (64 + i)))) 64 := cnt_add (fun i => f (64 + (64 + i))) 64 64
  have e0 : cnt (fun j => f (64 * 0 + j)) 64 = cnt f 64 := cnt_congr fun i _ => congrArg f (by omega)
  have e1 : cnt (fun j => f (64 * 1 + j)) 64 = cnt (fun i => f (64 + i)) 64 := cnt_congr fun i _ => congrArg f (by omega)
  have e2 : cnt (fun j => f (64 * 2 + j)) 64 = cnt (fun i => f (64 + (64 + i))) 64 := cnt_congr fun i _ => congrArg f (by omega)
  have e3 : cnt (fun j => f (64 * 3 + j)) 64 = cnt (fun i => f (64 + (64 + (64 + i)))) 64 := cnt_congr fun i _ => congrArg f (by omega)
  omega
end
section
open Go.RowKit
/-- block B holds the set f -/
def SetAt (f : Nat → Bool) (B : Nat) (w : World) : Prop := ∀ j, j < 4 → w.cell? ⟨B, j, none⟩ = some (.int .u64 (setW f j)) ∧ w.frozen? ⟨B, j, none⟩ = false
theorem SetAt.drew {f : Nat → Bool} {B : Nat} {w : World} (h : SetAt f B w) : SetAt f B w.drew := fun j hj => by simpa using h j hj
theorem SetAt.congr {f g : Nat → Bool} {B : Nat} {w : World} (h : SetAt f B w) (e : ∀ i, i < 256 → f i = g i) : SetAt g B w := fun j hj => by
  rw [← setW_congr' hj e]; exact h j hj
theorem SetAt.below {f : Nat → Bool} {B n : Nat} {w w' : World} (h : SetAt f B w) (hb : Below n w w') (hB : B < n) : SetAt f B w' := fun j hj =>
  ⟨(hb.cell (p := ⟨B, j, none⟩) hB).trans (h j hj).1, (hb.frozen (p := ⟨B, j, none⟩) hB).trans (h j hj).2⟩
theorem SetAt.four {f : Nat → Bool} {B : Nat} {w : World} (h : SetAt f B w) :
    (w.cell? ⟨B, 0, none⟩ = some (.int .u64 (setW f 0)) ∧ w.cell? ⟨B, 1, none⟩ = some (.int .u64 (setW f 1)) ∧ w.cell? ⟨B, 2, none⟩ = some (.int .u64 (setW f 2)) ∧ w.cell? ⟨B, 3, none⟩ = some (.int .u64 (setW f 3)))
      ∧ (w.frozen? ⟨B, 0, none⟩ = false ∧ w.frozen? ⟨B, 1, none⟩ = false ∧ w.frozen? ⟨B, 2, none⟩ = false ∧ w.frozen? ⟨B, 3, none⟩ = false) :=
  ⟨⟨(h 0 (by omega)).1, (h 1 (by omega)).1, (h 2 (by omega)).1, (h 3 (by omega)).1⟩, ⟨(h 0 (by omega)).2, (h 1 (by omega)).2, (h 2 (by omega)).2, (h 3 (by omega)).2⟩⟩
theorem SetAt.new {w : World} {t : TypeId} {f : Nat → Bool} {a b c d : Int} {B : Nat} (hB : B = w.heap.size) (h0 : a = setW f 0) (h1 : b = setW f 1) (h2 : c = setW f 2) (h3 : d = setW f 3) :
    SetAt f B (w.alloc (.cells #[.int .u64 a, .int .u64 b, .int .u64 c, .int .u64 d] t)) := fun j hj => by
  subst hB h0 h1 h2 h3
  have : j = 0 ∨ j = 1 ∨ j = 2 ∨ j = 3 := by omega
  rcases this with rfl | rfl | rfl | rfl <;> simp
/-- the set with one member more -/
def ins (f : Nat → Bool) (k : Nat) : Nat → Bool := fun i => f i || i == k
theorem pow_word (k : Nat) : IntKind.u64.wrap (2 ^ (k % 64)) = setW (fun i => i == k) (k / 64) := by
  have hp : (2 : Nat) ^ (k % 64) < 2 ^ 64 := Nat.pow_lt_pow_right (by omega) (by omega)
  have e : (2 : Int) ^ (k % 64) = ((2 ^ (k % 64) : Nat) : Int) := by rw [Int.natCast_pow]; rfl
  generalize hq : (2 : Nat) ^ (k % 64) = q at hp e
  rw [e, wrap_u64_of _ (by omega) (by omega)]
  refine setW_ext (by omega) (by omega) fun j hj => ?_
  rw [Int.toNat_natCast, ← hq, Nat.testBit_two_pow]
  rw [Bool.eq_iff_iff]; simp; omega
theorem ins_word (f : Nat → Bool) (k : Nat) : bits BinOp.or IntKind.u64 (setW f (k / 64)) (IntKind.u64.wrap (2 ^ (k % 64))) = setW (ins f k) (k / 64) := by
  rw [pow_word, or_word]; rfl
theorem SetAt.put {f : Nat → Bool} {B k : Nat} {w : World} {v : Int} (h : SetAt f B w) (hv : v = setW (ins f k) (k / 64)) : SetAt (ins f k) B (w.setCell ⟨B, k / 64, none⟩ (.int .u64 v)) := fun j hj => by
  subst hv
  refine ⟨?_, by rw [World.frozen?_setCell]; exact (h j hj).2⟩
  by_cases e : j = k / 64
  · subst e; exact World.cell?_setCell_same' _ _ _ (by rw [(h _ hj).1]; rfl)
  · rw [World.cell?_setCell_other (h := by intro hh; injection hh with _ h2; exact e h2.symm), (h j hj).1]
    congr 2
    refine setW_congr fun i hi => ?_
    have : (64 * j + i == k) = false := by rw [beq_eq_false_iff_ne]; omega
    unfold ins; rw [this]; simp
def inR (lo hi : Nat) : Nat → Bool := fun i => decide (lo ≤ i) && decide (i < hi)
theorem inR_none (lo k : Nat) : setW (inR lo lo) k = 0 := by
  have : inR lo lo = fun _ => false := by funext i; unfold inR; simp
  rw [this, setW_none]
theorem inR_ins (lo k i : Nat) (h : lo ≤ k) : ins (inR lo k) k i = inR lo (k + 1) i := by
  unfold ins inR; rw [Bool.eq_iff_iff]; simp; omega
end
section
open Go.RowKit
def lset (l : List Int) : Nat → Bool := fun i => l.any fun x => i == x.toNat
theorem lset_snoc (l : List Int) (x : Int) : lset (l ++ [x]) = ins (lset l) x.toNat := by
  funext i; unfold lset ins; rw [List.any_append]; simp
/- the reference's Has: the word is halved again and again -/
theorem has_mod (f : Nat → Bool) (i : Nat) : (setW f (i / 64) / 2 ^ (i % 64) % 2 == 1) = f i := by
  have hlo := setW_lo f (i / 64)
  have hhi := setW_hi f (i / 64)
  have hb := setW_bit f (i / 64) (i % 64) (by omega)
  rw [show 64 * (i / 64) + i % 64 = i from by omega] at hb
  rw [← hb]
  obtain ⟨n, hn⟩ := Int.eq_ofNat_of_zero_le hlo
  rw [hn, Int.toNat_natCast]
  have e : ((n : Int) / 2 ^ (i % 64)) = ((n / 2 ^ (i % 64) : Nat) : Int) := by
    rw [Int.natCast_ediv, Int.natCast_pow]; rfl
  rw [e, Nat.testBit, Nat.shiftRight_eq_div_pow, Nat.and_comm 1]
  rw [Bool.eq_iff_iff]
  simp only [beq_iff_eq, bne_iff_ne, ne_eq, Nat.and_one_is_mod]
  omega
theorem half (x : Int) (k : Nat) : x / 2 ^ (k + 1) = x / 2 ^ k / 2 := by
  rw [Int.pow_succ, Int.ediv_ediv_of_nonneg (Int.pow_nonneg (by omega))]
set_option maxHeartbeats 400000 in
theorem rhas_any (f : Nat → Bool) (c : Int) (w : World) (h0 : 0 ≤ c) (h1 : c ≤ 255) :
    Calls Try.prog 17 #[.agg #[.int .u64 (setW f 0), .int .u64 (setW f 1), .int .u64 (setW f 2), .int .u64 (setW f 3)], .int .u8 c] w fun e w' => e = .returned (.bool (f c.toNat)) ∧ Below w.heap.size w w' := by
  obtain ⟨i, rfl⟩ := Int.eq_ofNat_of_zero_le h0
  have hi : [Value.int IntKind.u64 (setW f 0), Value.int IntKind.u64 (setW f 1), Value.int IntKind.u64 (setW f 2), Value.int IntKind.u64 (setW f 3)][i / 64]? = some (.int .u64 (setW f (i / 64))) := by
    have : i / 64 = 0 ∨ i / 64 = 1 ∨ i / 64 = 2 ∨ i / 64 = 3 := by omega
    rcases this with h | h | h | h <;> rw [h] <;> rfl
  have hm := Lib.hid (has_mod f i)
  have l0 := Lib.hid (setW_lo f (i / 64))
  have l1 := Lib.hid (setW_hi f (i / 64))
  go_enter Try.func17, Try.ntmps17
  go_wp2
  go_loop [5, 6] (fun x j => ∃ k : Nat, k ≤ i % 64 ∧ j = .int .i64 k ∧ x = .int .u64 (setW f (i / 64) / 2 ^ k)) (fun _ j => (64 - (intOf j).toNat))
  case atStart => exact ⟨0, Nat.zero_le _, rfl, by simp⟩
  case round =>
    obtain ⟨k, hk, rfl, rfl⟩ := hrel
    have hx0 : 0 ≤ setW f (i / 64) / 2 ^ k := Int.ediv_nonneg l0.out (Int.pow_nonneg (by omega))
    have hx1 : setW f (i / 64) / 2 ^ k ≤ 18446744073709551615 := Int.le_trans (Int.ediv_le_self _ l0.out) l1.out
    have he := half (setW f (i / 64)) k
    obtain ⟨x, hx⟩ : ∃ x, x = setW f (i / 64) / 2 ^ k := ⟨_, rfl⟩
    rw [← hx] at hx0 hx1 he ⊢
    have HE := Lib.hid he
    have HX := Lib.hid hx
    clear hx he
    by_cases hlt : k < i % 64
    · go_wp2
      go_round
      case rel => exact ⟨k + 1, by omega, by go_num, by rw [HE.out]⟩
      case measure => simp [intOf]; omega
    · go_wp2
      go_ret
      refine ⟨ret_bool ?_, by go_grown⟩
      rw [HX.out, show k = i % 64 from by omega]; exact hm.out
end
section
open Go.RowKit
/-- block B holds the four words g -/
def WAt (g : Nat → Int) (B : Nat) (w : World) : Prop := ∀ j, j < 4 → w.cell? ⟨B, j, none⟩ = some (.int .u64 (g j)) ∧ w.frozen? ⟨B, j, none⟩ = false
theorem WAt.put {g : Nat → Int} {B k : Nat} {w : World} {v : Int} (h : WAt g B w) : WAt (fun j => if j = k then v else g j) B (w.setCell ⟨B, k, none⟩ (.int .u64 v)) := fun j hj => by
  refine ⟨?_, by rw [World.frozen?_setCell]; exact (h j hj).2⟩
  by_cases e : j = k
  · subst e; simp only [if_true]; exact World.cell?_setCell_same' _ _ _ (by rw [(h _ hj).1]; rfl)
  · simp only [e, if_false]; rw [World.cell?_setCell_other (h := by intro hh; injection hh with _ h2; exact e h2.symm), (h j hj).1]
theorem WAt.congr {g g' : Nat → Int} {B : Nat} {w : World} (h : WAt g B w) (e : ∀ j, j < 4 → g j = g' j) : WAt g' B w := fun j hj => by
  rw [← e j hj]; exact h j hj
/-- what the words hold when word i has been filled down to its bit m: those before are whole, those behind are 0 -/
def part (f : Nat → Bool) (i m : Nat) : Nat → Int := fun j => if j < i then setW f j else if j = i then setW f i / 2 ^ m else 0
theorem shr_step (f : Nat → Bool) (i m : Nat) (hm : m < 64) : setW f i / 2 ^ m = setW f i / 2 ^ (m + 1) * 2 + (f (64 * i + m)).toNat := by
  have hb := setW_bit f i m hm
  have hlo := setW_lo f i
  obtain ⟨n, hn⟩ := Int.eq_ofNat_of_zero_le hlo
  rw [half, hn]
  rw [hn, Int.toNat_natCast, Nat.testBit, Nat.shiftRight_eq_div_pow, Nat.and_comm 1, Nat.and_one_is_mod] at hb
  have e : ((n : Int) / 2 ^ m) = ((n / 2 ^ m : Nat) : Int) := by
    rw [Int.natCast_ediv, Int.natCast_pow]; rfl
  rw [e]
  generalize n / 2 ^ m = q at *
  rw [← hb]
  rcases Nat.mod_two_eq_zero_or_one q with h | h <;> rw [h] <;> simp <;> omega
theorem shr_all (f : Nat → Bool) (i : Nat) : setW f i / 2 ^ 64 = 0 := by
  have := setW_lo f i; have := setW_hi f i
  omega
theorem part_step (f : Nat → Bool) (i : Nat) (j : Nat) : part f i 0 j = part f (i + 1) 64 j := by
  unfold part
  by_cases h1 : j < i
  · rw [if_pos h1, if_pos (by omega)]
  · by_cases h2 : j = i
    · subst h2; simp
    · rw [if_neg h1, if_neg h2, if_neg (by omega)]
      split
      · exact (shr_all f _).symm
      · rfl
set_option maxHeartbeats 800000 in
theorem rof_any (f : Nat → Bool) (b off cap : Nat) (w : World) (hb0 : b < w.heap.size) (hc : ∀ j, j < 256 → w.cell? ⟨b, off + j, none⟩ = some (.bool (f j))) :
    Calls Try.prog 31 #[.slice (some ⟨b, off, none⟩) 256 cap] w
      fun e w' => e = .returned (.agg #[.int .u64 (setW f 0), .int .u64 (setW f 1), .int .u64 (setW f 2), .int .u64 (setW f 3)]) ∧ Below w.heap.size w w' := by
  have HC := Lib.hid hc
  clear hc
  go_enter Try.func31, Try.ntmps31
  go_wp2
  go_loopw [4] (fun c wr => ∃ i : Nat, i ≤ 4 ∧ c = .int .i64 i ∧ WAt (part f i 64) (w.heap.size + 1) wr ∧ Below (w.heap.size + 1) (w.alloc (.cells #[.int .u64 0, .int .u64 0, .int .u64 0, .int .u64 0] 35)) wr ∧ w.heap.size + 1 < wr.heap.size) (fun c _ => (4 - (intOf c).toNat))
  case atStart =>
    refine ⟨0, by omega, rfl, ?_, (Below.refl _ _).alloc (by simp) _, by simp⟩
    intro j hj
    have e : part f 0 64 j = 0 := by
      unfold part; rw [if_neg (by omega)]; split
      · exact shr_all f _
      · rfl
    rw [e]
    have : j = 0 ∨ j = 1 ∨ j = 2 ∨ j = 3 := by omega
    rcases this with rfl | rfl | rfl | rfl <;> simp
  case round =>
    obtain ⟨i, hi, rfl, hs, hb, hz⟩ := hrel
    by_cases hlt : i < 4
    · go_wp2
      obtain ⟨wo, rfl⟩ : ∃ wo : World, wo = wr := ⟨_, rfl⟩
      go_loopw [5] (fun c wr => ∃ m : Nat, m ≤ 64 ∧ c = .int .i64 ((m : Int) - 1) ∧ WAt (part f i m) (w.heap.size + 1) wr ∧ Below (w.heap.size + 1) (w.alloc (.cells #[.int .u64 0, .int .u64 0, .int .u64 0, .int .u64 0] 35)) wr ∧ w.heap.size + 1 < wr.heap.size) (fun c _ => (intOf c + 1).toNat)
      case atStart => exact ⟨64, by omega, by simp, hs, hb, hz⟩
      case round =>
        obtain ⟨m, hm, rfl, hs, hb, hz⟩ := hrel
        by_cases h0 : m = 0
        · subst h0
          go_wp2
          exact ⟨⟨i + 1, by omega, by go_num, hs.congr fun j _ => part_step f i j, hb, hz⟩, by simp [intOf]; omega⟩
        · obtain ⟨m, rfl⟩ : ∃ n, m = n + 1 := ⟨m - 1, by omega⟩
          have hc0 := (hs i hlt).1
          have hf0 := (hs i hlt).2
          have hst := shr_step f i m (by omega)
          have hcell : wr.cell? ⟨b, off + (64 * i + m), none⟩ = some (.bool (f (64 * i + m))) := by
            rw [(bcell hb).1 b _ (by omega), World.cell?_alloc_lt (h := hb0)]; exact HC.out _ (by omega)
          have hpx : part f i (m + 1) i = setW f i / 2 ^ (m + 1) := by unfold part; simp
          have hx0 : 0 ≤ setW f i / 2 ^ (m + 1) := Int.ediv_nonneg (setW_lo _ _) (Int.pow_nonneg (by omega))
          have hx1 : setW f i / 2 ^ m ≤ 18446744073709551615 := Int.le_trans (Int.ediv_le_self _ (setW_lo _ _)) (setW_hi _ _)
          rw [hst] at hx1
          have hnew : ∀ v, v = setW f i / 2 ^ m → ∀ j, j < 4 → (if j = i then v else part f i (m + 1) j) = part f i m j := by
            intro v hv j _
            subst hv; unfold part
            by_cases e : j = i
            · subst e; simp
            · simp [e]
          have HN := Lib.hid hnew
          have HS := Lib.hid hst
          rw [hpx] at hc0
          clear hnew hst hpx
          generalize setW f i / 2 ^ (m + 1) = x at *
          cases hbit : f (64 * i + m)
          · rw [hbit] at HS hx1 hcell
            have hx2 : x * 2 ≤ 18446744073709551615 := by simpa using hx1
            go_wp2
            exact ⟨⟨m, by omega, by go_num, hs.put.congr (HN.out _ (by rw [HS.out]; simp)), hb.setCell (Nat.le_refl _) _, by simpa using hz⟩, by simp [intOf]⟩
          · rw [hbit] at HS hx1 hcell
            have hx2 : x * 2 + 1 ≤ 18446744073709551615 := by simpa using hx1
            go_wp2
            exact ⟨⟨m, by omega, by go_num, (hs.put.put (k := i)).congr (fun j hj => by rw [← HN.out (x * 2 + 1) (by rw [HS.out]; simp) j hj]; split <;> rfl), (hb.setCell (Nat.le_refl _) _).setCell (Nat.le_refl _) _, by simpa using hz⟩, by simp [intOf]⟩
    · obtain rfl : i = 4 := by omega
      have hs4 : SetAt f (w.heap.size + 1) wr := fun j hj => by
        have := hs j hj
        unfold part at this; rw [if_pos hj] at this; exact this
      obtain ⟨⟨c0, c1, c2, c3⟩, -⟩ := hs4.four
      obtain ⟨d0, d1, d2, d3⟩ := cells4 hb (by omega)
      obtain ⟨-, hfz⟩ := bcell hb
      clear HC hs hs4
      go_wp2
      refine bodyPost_ret (v := .agg #[.int .u64 (setW f 0), .int .u64 (setW f 1), .int .u64 (setW f 2), .int .u64 (setW f 3)]) (by simp [results, Try.results31, go_sem, d0, d1, d2, d3]) rfl ⟨rfl, ?_⟩
      exact ((((((Below.refl _ w).alloc (Nat.le_refl _) _).trans (hb.mono (by omega))).setCell (Nat.le_refl _) _).setCell (Nat.le_refl _) _).setCell (Nat.le_refl _) _).setCell (Nat.le_refl _) _
theorem rof_row (f : Nat → Bool) (v : Value) (w : World) (hv : RowAt w v ((List.range 256).map fun i => .bool (f i))) :
    Calls Try.prog 31 #[v] w
      fun e w' => e = .returned (.agg #[.int .u64 (setW f 0), .int .u64 (setW f 1), .int .u64 (setW f 2), .int .u64 (setW f 3)]) ∧ Below w.heap.size w w' := by
  obtain ⟨a, cap, rfl, hcs⟩ := hv
  obtain ⟨b, off, rfl, hc⟩ := hcs.resolve_left (by simp)
  have hg : ∀ j, j < 256 → w.cell? ⟨b, off + j, none⟩ = some (.bool (f j)) := fun j hj => hc j _ (by rw [List.getElem?_map, List.getElem?_range hj]; rfl)
  rw [List.length_map, List.length_range]
  exact rof_any f b off cap w (block_lt_of_cell (hg 0 (by omega))) hg
end
section
open Go.RowKit
/-- block B holds the bools f -/
def BAt (f : Nat → Bool) (B : Nat) (w : World) : Prop := ∀ j, j < 256 → w.cell? ⟨B, j, none⟩ = some (.bool (f j)) ∧ w.frozen? ⟨B, j, none⟩ = false
theorem BAt.put {f : Nat → Bool} {B k : Nat} {w : World} (h : BAt f B w) : BAt (ins f k) B (w.setCell ⟨B, k, none⟩ (.bool true)) := fun j hj => by
  refine ⟨?_, by rw [World.frozen?_setCell]; exact (h j hj).2⟩
  unfold ins
  by_cases e : j = k
  · subst e; rw [World.cell?_setCell_same' _ _ _ (by rw [(h _ hj).1]; rfl)]; simp
  · rw [World.cell?_setCell_other (h := by intro hh; injection hh with _ h2; exact e h2.symm), (h j hj).1]
    have : (j == k) = false := by rw [beq_eq_false_iff_ne]; exact e
    rw [this]; simp
/-- block B holds four values, and may be written -/
def Four (B : Nat) (w : World) (x y z u : Value) : Prop :=
  (w.cell? ⟨B, 0, none⟩ = some x ∧ w.cell? ⟨B, 1, none⟩ = some y ∧ w.cell? ⟨B, 2, none⟩ = some z ∧ w.cell? ⟨B, 3, none⟩ = some u) ∧ ∀ o, w.frozen? ⟨B, o, none⟩ = false
theorem Four.new (w : World) (x y z u : Value) (t : TypeId) : Four w.heap.size (w.alloc (.cells #[x, y, z, u] t)) x y z u := by
  unfold Four; refine ⟨⟨?_, ?_, ?_, ?_⟩, fun o => ?_⟩ <;> simp
theorem Four.below {B n : Nat} {w w' : World} {x y z u : Value} (h : Four B w x y z u) (hb : Below n w w') (hB : B < n) : Four B w' x y z u := by
  obtain ⟨⟨h0, h1, h2, h3⟩, hf⟩ := h
  exact ⟨⟨(hb.cell (p := ⟨B, 0, none⟩) hB).trans h0, (hb.cell (p := ⟨B, 1, none⟩) hB).trans h1, (hb.cell (p := ⟨B, 2, none⟩) hB).trans h2, (hb.cell (p := ⟨B, 3, none⟩) hB).trans h3⟩, fun o => (hb.frozen (p := ⟨B, o, none⟩) hB).trans (hf o)⟩
def falses : Array Value := Array.replicate 256 (.bool false)
theorem mk256 (w : World) : (Instr.makeSlice 60 (.int .i64 256) (.int .i64 256)).run Try.prog w = .ok (.slice (some ⟨w.heap.size, 0, none⟩) 256 256) (w.alloc (.cells falses 4)) := by kernel_rfl
theorem Try.infoBool : (Try.prog.info? 4).map (fun i => (i.zero, i.size, i.bytes)) = some (some (.bool false), 1, 1) := by kernel_rfl
def bools (f : Nat → Bool) (k : Nat) : List Value := (List.range k).map fun i => .bool (f i)
theorem bools_len (f : Nat → Bool) (k : Nat) : (bools f k).length = k := by unfold bools; simp
theorem bools_succ (f : Nat → Bool) (k : Nat) : bools f (k + 1) = bools f k ++ [.bool (f k)] := by
  unfold bools; rw [List.range_succ, List.map_append]; rfl
def rin (lo hi : Int) : Nat → Bool := fun i => decide (lo ≤ (i : Int)) && decide ((i : Int) ≤ hi)
theorem rin_false {lo hi : Int} {k : Nat} (h : ¬ (lo ≤ (k : Int) ∧ (k : Int) ≤ hi)) : rin lo hi k = false := by
  unfold rin; rw [Bool.and_eq_false_iff]; simp; omega
theorem rin_true {lo hi : Int} {k : Nat} (h : lo ≤ (k : Int) ∧ (k : Int) ≤ hi) : rin lo hi k = true := by
  unfold rin; simp; omega
end
end Go.Proofs.Ytklimoepkifnhaa
