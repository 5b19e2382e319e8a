/- Plain facts on the number of ones in a word of 64 bits: what the steps of math/bits.OnesCount64 come to. Nothing here speaks of a program. -/
import Derived.Test.YtipokoalcbaolaaDoorSetMath
namespace Go.Proofs.YtipokoalcbaolaaDoor

def cnt (f : Nat → Bool) : Nat → Nat
  | 0 => 0
  | n + 1 => cnt f n + (f n).toNat
theorem cnt_le (f : Nat → Bool) (n : Nat) : cnt f n ≤ n := by
  induction n with
  | zero => simp [cnt]
  | succ n ih => unfold cnt; have : (f n).toNat ≤ 1 := Bool.toNat_le _; omega
theorem cnt_add (f : Nat → Bool) (m n : Nat) : cnt f (m + n) = cnt f m + cnt (fun i => f (m + i)) n := by
  induction n with
  | zero => simp [cnt]
  | succ n ih => rw [← Nat.add_assoc]; show cnt f (m + n) + _ = _ + (cnt _ n + _); rw [ih]; exact Nat.add_assoc _ _ _
theorem cnt_congr {f g : Nat → Bool} {n : Nat} (h : ∀ i, i < n → f i = g i) : cnt f n = cnt g n := by
  induction n with
  | zero => rfl
  | succ n ih => unfold cnt; rw [ih fun i hi => h i (by omega), h n (by omega)]
theorem cnt_not (f : Nat → Bool) (n : Nat) : cnt f n + cnt (fun i => !f i) n = n := by
  induction n with
  | zero => rfl
  | succ n ih => unfold cnt; cases f n <;> simp <;> omega
/-- the steps, on natural numbers -/
def p1 (m x : Nat) : Nat := ((x / 2) &&& m) + (x &&& m)
def p2 (m x : Nat) : Nat := ((x / 4) &&& m) + (x &&& m)
def p3 (m x : Nat) : Nat := (x / 16 + x) &&& m
theorem land_byte (a m x y : Nat) (ha : a < 256) (hm : m < 256) : (a + 256 * x) &&& (m + 256 * y) = (a &&& m) + 256 * (x &&& y) := by
  have hl : a &&& m < 2 ^ 8 := Nat.and_lt_two_pow _ (by omega)
  apply Nat.eq_of_testBit_eq
  intro i
  rw [Nat.testBit_and, show a + 256 * x = 2 ^ 8 * x + a from by omega, show m + 256 * y = 2 ^ 8 * y + m from by omega, show (a &&& m) + 256 * (x &&& y) = 2 ^ 8 * (x &&& y) + (a &&& m) from by omega,
    Nat.testBit_two_pow_mul_add _ (by omega), Nat.testBit_two_pow_mul_add _ (by omega), Nat.testBit_two_pow_mul_add _ hl]
  by_cases h : i < 8 <;> simp [h]
theorem p1_byte (a m x : Nat) (ha : a < 256) : p1 (85 + 256 * m) (a + 256 * x) = p1 85 a + 256 * p1 m x := by
  unfold p1
  have e : (a + 256 * x) / 2 = (a / 2 + 128 * (x % 2)) + 256 * (x / 2) := by omega
  have key : ∀ a, a < 256 → ∀ t, t < 2 → ((a / 2 + 128 * t) &&& 85) = ((a / 2) &&& 85) := by decide +kernel
  rw [e, land_byte _ _ _ _ (by omega) (by omega), land_byte _ _ _ _ ha (by omega), key a ha _ (by omega)]
  omega
theorem p2_byte (a m x : Nat) (ha : a < 256) : p2 (51 + 256 * m) (a + 256 * x) = p2 51 a + 256 * p2 m x := by
  unfold p2
  have e : (a + 256 * x) / 4 = (a / 4 + 64 * (x % 4)) + 256 * (x / 4) := by omega
  have key : ∀ a, a < 256 → ∀ t, t < 4 → ((a / 4 + 64 * t) &&& 51) = ((a / 4) &&& 51) := by decide +kernel
  rw [e, land_byte _ _ _ _ (by omega) (by omega), land_byte _ _ _ _ ha (by omega), key a ha _ (by omega)]
  omega
/-- the third step keeps its bytes apart where no half of a byte is above 4 -/
def nib (x : Nat) : Prop := x % 16 ≤ 4 ∧ x / 16 ≤ 4
theorem p3_byte (a m x t : Nat) (ha : nib a) (ht : x % 16 = t) (h4 : t ≤ 4) : p3 (15 + 256 * m) (a + 256 * x) = p3 15 a + 256 * p3 m x := by
  unfold p3
  obtain ⟨h1, h2⟩ := ha
  have e : (a + 256 * x) / 16 + (a + 256 * x) = (a / 16 + 16 * t + a) + 256 * (x / 16 + x) := by omega
  have key : ∀ a, a < 80 → ∀ t, t < 5 → a % 16 ≤ 4 → ((a / 16 + 16 * t + a) &&& 15) = ((a / 16 + a) &&& 15) := by decide +kernel
  rw [e, land_byte _ _ _ _ (by omega) (by omega), key a (by omega) t (by omega) h1]
/-- eight bytes, the lowest first -/
def by8 (a b c d e f g h : Nat) : Nat := a + 256 * (b + 256 * (c + 256 * (d + 256 * (e + 256 * (f + 256 * (g + 256 * h))))))
theorem by8_some (x : Nat) (hx : x < 18446744073709551616) : ∃ a b c d e f g h, x = by8 a b c d e f g h ∧ a < 256 ∧ b < 256 ∧ c < 256 ∧ d < 256 ∧ e < 256 ∧ f < 256 ∧ g < 256 ∧ h < 256 := by
  refine ⟨x % 256, x / 256 % 256, x / 65536 % 256, x / 16777216 % 256, x / 4294967296 % 256, x / 1099511627776 % 256, x / 281474976710656 % 256, x / 72057594037927936, ?_, ?_, ?_, ?_, ?_, ?_, ?_, ?_, ?_⟩
  · unfold by8; omega
  all_goals omega
def pop8 (a : Nat) : Nat := p3 15 (p2 51 (p1 85 a))
theorem pop8_facts : ∀ a, a < 256 → p1 85 a < 256 ∧ nib (p2 51 (p1 85 a)) ∧ p2 51 (p1 85 a) % 16 ≤ 4 ∧ pop8 a = cnt (fun k => a.testBit k) 8 ∧ pop8 a ≤ 8 := by
  unfold nib; decide +kernel
theorem p1_by8 (a b c d e f g h : Nat) (ha : a < 256) (hb : b < 256) (hc : c < 256) (hd : d < 256) (he : e < 256) (hf : f < 256) (hg : g < 256) :
    p1 6148914691236517205 (by8 a b c d e f g h) = by8 (p1 85 a) (p1 85 b) (p1 85 c) (p1 85 d) (p1 85 e) (p1 85 f) (p1 85 g) (p1 85 h) := by
  unfold by8
  rw [show (6148914691236517205 : Nat) = 85 + 256 * (85 + 256 * (85 + 256 * (85 + 256 * (85 + 256 * (85 + 256 * (85 + 256 * 85)))))) from rfl]
  rw [p1_byte _ _ _ ha, p1_byte _ _ _ hb, p1_byte _ _ _ hc, p1_byte _ _ _ hd, p1_byte _ _ _ he, p1_byte _ _ _ hf, p1_byte _ _ _ hg]
theorem p2_by8 (a b c d e f g h : Nat) (ha : a < 256) (hb : b < 256) (hc : c < 256) (hd : d < 256) (he : e < 256) (hf : f < 256) (hg : g < 256) :
    p2 3689348814741910323 (by8 a b c d e f g h) = by8 (p2 51 a) (p2 51 b) (p2 51 c) (p2 51 d) (p2 51 e) (p2 51 f) (p2 51 g) (p2 51 h) := by
  unfold by8
  rw [show (3689348814741910323 : Nat) = 51 + 256 * (51 + 256 * (51 + 256 * (51 + 256 * (51 + 256 * (51 + 256 * (51 + 256 * 51)))))) from rfl]
  rw [p2_byte _ _ _ ha, p2_byte _ _ _ hb, p2_byte _ _ _ hc, p2_byte _ _ _ hd, p2_byte _ _ _ he, p2_byte _ _ _ hf, p2_byte _ _ _ hg]
theorem p3_by8 (a b c d e f g h : Nat) (ha : nib a) (hb : nib b) (hc : nib c) (hd : nib d) (he : nib e) (hf : nib f) (hg : nib g) (hh : nib h) :
    p3 1085102592571150095 (by8 a b c d e f g h) = by8 (p3 15 a) (p3 15 b) (p3 15 c) (p3 15 d) (p3 15 e) (p3 15 f) (p3 15 g) (p3 15 h) := by
  unfold by8
  have k : ∀ x y : Nat, (x + 256 * y) % 16 = x % 16 := fun x y => by omega
  rw [show (1085102592571150095 : Nat) = 15 + 256 * (15 + 256 * (15 + 256 * (15 + 256 * (15 + 256 * (15 + 256 * (15 + 256 * 15)))))) from rfl]
  rw [p3_byte _ _ _ _ ha (k _ _) hb.1, p3_byte _ _ _ _ hb (k _ _) hc.1, p3_byte _ _ _ _ hc (k _ _) hd.1, p3_byte _ _ _ _ hd (k _ _) he.1, p3_byte _ _ _ _ he (k _ _) hf.1, p3_byte _ _ _ _ hf (k _ _) hg.1, p3_byte _ _ _ _ hg rfl hh.1]
theorem by8_add (a b c d e f g h a' b' c' d' e' f' g' h' : Nat) : by8 a b c d e f g h + by8 a' b' c' d' e' f' g' h' = by8 (a + a') (b + b') (c + c') (d + d') (e + e') (f + f') (g + g') (h + h') := by
  unfold by8; omega
theorem by8_q1 (a b c d e f g h : Nat) (ha : a < 256) : by8 a b c d e f g h / 256 = by8 b c d e f g h 0 := by
  have : ∀ u v : Nat, u < 256 → (u + 256 * v) / 256 = v := fun u v h => by omega
  unfold by8; rw [this _ _ ha]; simp
theorem by8_q2 (a b c d e f g h : Nat) (ha : a < 256) (hb : b < 256) : by8 a b c d e f g h / 65536 = by8 c d e f g h 0 0 := by
  have : ∀ u v r : Nat, u < 256 → v < 256 → (u + 256 * (v + 256 * r)) / 65536 = r := fun u v r h h' => by omega
  unfold by8; rw [this _ _ _ ha hb]; simp
theorem by8_q4 (a b c d e f g h : Nat) (ha : a < 256) (hb : b < 256) (hc : c < 256) (hd : d < 256) : by8 a b c d e f g h / 4294967296 = by8 e f g h 0 0 0 0 := by
  have : ∀ u v r s q : Nat, u < 256 → v < 256 → r < 256 → s < 256 → (u + 256 * (v + 256 * (r + 256 * (s + 256 * q)))) / 4294967296 = q := fun u v r s q h1 h2 h3 h4 => by omega
  unfold by8; rw [this _ _ _ _ _ ha hb hc hd]; simp
theorem by8_m (a b c d e f g h : Nat) : by8 a b c d e f g h % 128 = a % 128 := by
  have : ∀ u v : Nat, (u + 256 * v) % 128 = u % 128 := fun u v => by omega
  unfold by8; rw [this]
theorem by8_le (a b c d e f g h k : Nat) (ha : a ≤ 8) (hb : b ≤ 8) (hc : c ≤ 8) (hd : d ≤ 8) (he : e ≤ 8) (hf : f ≤ 8) (hg : g ≤ 8) (hh : h ≤ 8) (hk : by8 8 8 8 8 8 8 8 8 ≤ k) : by8 a b c d e f g h ≤ k := by
  unfold by8 at *; omega
theorem sum_by8 (a b c d e f g h : Nat) (ha : a ≤ 8) (hb : b ≤ 8) (hc : c ≤ 8) (hd : d ≤ 8) (he : e ≤ 8) (hf : f ≤ 8) (hg : g ≤ 8) (hh : h ≤ 8) (x y z t : Nat)
    (hx : x = by8 a b c d e f g h) (hy : y = x + x / 256) (hz : z = y + y / 65536) (ht : t = z + z / 4294967296) : x ≤ 578721382704613384 ∧ y ≤ 581000000000000000 ∧ z ≤ 582000000000000000 ∧ t ≤ 583000000000000000 ∧ t % 128 = a + b + c + d + e + f + g + h := by
  have e1 : x / 256 = by8 b c d e f g h 0 := by rw [hx]; exact by8_q1 _ _ _ _ _ _ _ _ (by omega)
  have ey : y = by8 (a + b) (b + c) (c + d) (d + e) (e + f) (f + g) (g + h) h := by
    rw [hy, e1, hx, by8_add]; rfl
  have e2 : y / 65536 = by8 (c + d) (d + e) (e + f) (f + g) (g + h) h 0 0 := by rw [ey]; exact by8_q2 _ _ _ _ _ _ _ _ (by omega) (by omega)
  have ez : z = by8 (a + b + (c + d)) (b + c + (d + e)) (c + d + (e + f)) (d + e + (f + g)) (e + f + (g + h)) (f + g + h) (g + h) h := by
    rw [hz, e2, ey, by8_add]; rfl
  have e4 : z / 4294967296 = by8 (e + f + (g + h)) (f + g + h) (g + h) h 0 0 0 0 := by rw [ez]; exact by8_q4 _ _ _ _ _ _ _ _ (by omega) (by omega) (by omega) (by omega)
  have et : t = by8 (a + b + (c + d) + (e + f + (g + h))) (b + c + (d + e) + (f + g + h)) (c + d + (e + f) + (g + h)) (d + e + (f + g) + h) (e + f + (g + h)) (f + g + h) (g + h) h := by
    rw [ht, e4, ez, by8_add]; rfl
  have b0 : x ≤ 578721382704613384 := by rw [hx]; exact by8_le _ _ _ _ _ _ _ _ _ ha hb hc hd he hf hg hh (by decide)
  refine ⟨b0, ?_, ?_, ?_, ?_⟩
  · clear ez et e1 e2 e4 ey; omega
  · clear ez et e1 e2 e4 ey; omega
  · clear ez et e1 e2 e4 ey; omega
  · rw [et, by8_m, Nat.mod_eq_of_lt (by omega)]; omega
theorem cnt_by8 (a b c d e f g h : Nat) (ha : a < 256) (hb : b < 256) (hc : c < 256) (hd : d < 256) (he : e < 256) (hf : f < 256) (hg : g < 256) (hh : h < 256) :
    cnt (fun k => (by8 a b c d e f g h).testBit k) 64 = pop8 a + pop8 b + pop8 c + pop8 d + pop8 e + pop8 f + pop8 g + pop8 h := by
  have step : ∀ (a y n : Nat), a < 256 → cnt (fun k => (a + 256 * y).testBit k) (8 + n) = pop8 a + cnt (fun k => y.testBit k) n := by
    intro a y n ha
    have hb : ∀ i, (a + 256 * y).testBit i = if i < 8 then a.testBit i else y.testBit (i - 8) := fun i => by
      rw [show a + 256 * y = 2 ^ 8 * y + a from by omega, Nat.testBit_two_pow_mul_add _ (by omega)]
    rw [cnt_add, (pop8_facts a ha).2.2.2.1]
    congr 1
    · exact cnt_congr fun i hi => by rw [hb, if_pos hi]
    · exact cnt_congr fun i _ => by rw [hb, if_neg (by omega)]; congr 1; omega
  unfold by8
  rw [show (64 : Nat) = 8 + (8 + (8 + (8 + (8 + (8 + (8 + 8)))))) from rfl, step _ _ _ ha, step _ _ _ hb, step _ _ _ hc, step _ _ _ hd, step _ _ _ he, step _ _ _ hf, step _ _ _ hg, (pop8_facts h hh).2.2.2.1]
  omega
/-- the steps as the walk writes them -/
def oc1 (x : Int) : Int := IntKind.u64.wrap (bits BinOp.and IntKind.u64 (x / 2) 6148914691236517205 + bits BinOp.and IntKind.u64 x 6148914691236517205)
def oc2 (x : Int) : Int := IntKind.u64.wrap (bits BinOp.and IntKind.u64 (x / 4) 3689348814741910323 + bits BinOp.and IntKind.u64 x 3689348814741910323)
def oc3 (x : Int) : Int := bits BinOp.and IntKind.u64 (IntKind.u64.wrap (x / 16 + x)) 1085102592571150095
def ocS (k x : Int) : Int := IntKind.u64.wrap (x + x / k)
def ocE (x : Int) : Int := ocS 4294967296 (ocS 65536 (ocS 256 (oc3 (oc2 (oc1 x)))))
theorem wrap_u64_of (n : Int) (h0 : 0 ≤ n) (h1 : n < 18446744073709551616) : IntKind.u64.wrap n = n := by
  rw [IntKind.wrap_u64]; omega
theorem by8_lt (a b c d e f g h : Nat) (ha : a < 256) (hb : b < 256) (hc : c < 256) (hd : d < 256) (he : e < 256) (hf : f < 256) (hg : g < 256) (hh : h < 256) : by8 a b c d e f g h < 18446744073709551616 := by
  unfold by8; omega
theorem oc1_nat (x : Nat) (hx : x < 18446744073709551616) (h : p1 6148914691236517205 x < 18446744073709551616) : oc1 (x : Int) = (p1 6148914691236517205 x : Nat) := by
  unfold oc1 p1 at *
  have e : ((x : Int) / 2) = ((x / 2 : Nat) : Int) := by omega
  rw [e, show (6148914691236517205 : Int) = ((6148914691236517205 : Nat) : Int) from rfl, Go.u64_and_nat _ _ (by omega) (by omega), Go.u64_and_nat _ _ (by omega) (by omega), wrap_u64_of _ (by omega) (by omega)]
  omega
theorem oc2_nat (x : Nat) (hx : x < 18446744073709551616) (h : p2 3689348814741910323 x < 18446744073709551616) : oc2 (x : Int) = (p2 3689348814741910323 x : Nat) := by
  unfold oc2 p2 at *
  have e : ((x : Int) / 4) = ((x / 4 : Nat) : Int) := by omega
  rw [e, show (3689348814741910323 : Int) = ((3689348814741910323 : Nat) : Int) from rfl, Go.u64_and_nat _ _ (by omega) (by omega), Go.u64_and_nat _ _ (by omega) (by omega), wrap_u64_of _ (by omega) (by omega)]
  omega
theorem oc3_nat (x : Nat) (hx : x / 16 + x < 18446744073709551616) : oc3 (x : Int) = (p3 1085102592571150095 x : Nat) := by
  unfold oc3 p3
  have e : ((x : Int) / 16 + x) = ((x / 16 + x : Nat) : Int) := by omega
  rw [e, wrap_u64_of _ (by omega) (by omega), show (1085102592571150095 : Int) = ((1085102592571150095 : Nat) : Int) from rfl, Go.u64_and_nat _ _ (by omega) (by omega)]
theorem nib_lt {a : Nat} (h : nib a) : a ≤ 68 := by unfold nib at h; omega
theorem ocE_nat (x : Nat) (hx : x < 18446744073709551616) : 0 ≤ ocE (x : Int) ∧ ocE (x : Int) ≤ 583000000000000000 ∧ ocE (x : Int) % 128 = (cnt (fun k => x.testBit k) 64 : Nat) := by
  obtain ⟨a, b, c, d, e, f, g, h, rfl, ha, hb, hc, hd, he, hf, hg, hh⟩ := by8_some x hx
  obtain ⟨a1, a2, -, -, a4⟩ := pop8_facts a ha
  obtain ⟨b1, b2, -, -, b4⟩ := pop8_facts b hb
  obtain ⟨c1, c2, -, -, c4⟩ := pop8_facts c hc
  obtain ⟨d1, d2, -, -, d4⟩ := pop8_facts d hd
  obtain ⟨e1, e2, -, -, e4⟩ := pop8_facts e he
  obtain ⟨f1, f2, -, -, f4⟩ := pop8_facts f hf
  obtain ⟨g1, g2, -, -, g4⟩ := pop8_facts g hg
  obtain ⟨h1, h2, -, -, h4⟩ := pop8_facts h hh
  have P1 := p1_by8 a b c d e f g h ha hb hc hd he hf hg
  have L1 := by8_lt _ _ _ _ _ _ _ _ a1 b1 c1 d1 e1 f1 g1 h1
  have P2 := p2_by8 _ _ _ _ _ _ _ (p1 85 h) a1 b1 c1 d1 e1 f1 g1
  have L2 := by8_lt (p2 51 (p1 85 a)) (p2 51 (p1 85 b)) (p2 51 (p1 85 c)) (p2 51 (p1 85 d)) (p2 51 (p1 85 e)) (p2 51 (p1 85 f)) (p2 51 (p1 85 g)) (p2 51 (p1 85 h))
    (by have := nib_lt a2; omega) (by have := nib_lt b2; omega) (by have := nib_lt c2; omega) (by have := nib_lt d2; omega) (by have := nib_lt e2; omega) (by have := nib_lt f2; omega) (by have := nib_lt g2; omega) (by have := nib_lt h2; omega)
  have P3 := p3_by8 _ _ _ _ _ _ _ _ a2 b2 c2 d2 e2 f2 g2 h2
  have B2 : by8 (p2 51 (p1 85 a)) (p2 51 (p1 85 b)) (p2 51 (p1 85 c)) (p2 51 (p1 85 d)) (p2 51 (p1 85 e)) (p2 51 (p1 85 f)) (p2 51 (p1 85 g)) (p2 51 (p1 85 h)) ≤ 4919131752989213764 := by
    have := nib_lt a2; have := nib_lt b2; have := nib_lt c2; have := nib_lt d2; have := nib_lt e2; have := nib_lt f2; have := nib_lt g2; have := nib_lt h2
    unfold by8; omega
  have C := cnt_by8 a b c d e f g h ha hb hc hd he hf hg hh
  obtain ⟨S1, S2, S3, S4, S5⟩ := sum_by8 (pop8 a) (pop8 b) (pop8 c) (pop8 d) (pop8 e) (pop8 f) (pop8 g) (pop8 h) a4 b4 c4 d4 e4 f4 g4 h4 _ _ _ _ rfl rfl rfl rfl
  unfold ocE
  rw [oc1_nat _ hx (by rw [P1]; exact L1), P1, oc2_nat _ L1 (by rw [P2]; exact L2), P2, oc3_nat _ (by omega), P3, C]
  change _ ∧ _ ∧ _
  generalize hX : by8 (p3 15 (p2 51 (p1 85 a))) (p3 15 (p2 51 (p1 85 b))) (p3 15 (p2 51 (p1 85 c))) (p3 15 (p2 51 (p1 85 d))) (p3 15 (p2 51 (p1 85 e))) (p3 15 (p2 51 (p1 85 f))) (p3 15 (p2 51 (p1 85 g))) (p3 15 (p2 51 (p1 85 h))) = X
  have hX' : by8 (pop8 a) (pop8 b) (pop8 c) (pop8 d) (pop8 e) (pop8 f) (pop8 g) (pop8 h) = X := hX
  rw [hX'] at S1 S2 S3 S4 S5
  clear hX hX' P1 P2 P3 L1 L2 B2 C
  unfold ocS
  rw [wrap_u64_of ((X : Int) + X / 256) (by omega) (by omega)]
  rw [wrap_u64_of ((X : Int) + X / 256 + ((X : Int) + X / 256) / 65536) (by omega) (by omega)]
  rw [wrap_u64_of _ (by omega) (by omega)]
  refine ⟨by omega, by omega, ?_⟩
  rw [← S5]
  omega
end Go.Proofs.YtipokoalcbaolaaDoor
