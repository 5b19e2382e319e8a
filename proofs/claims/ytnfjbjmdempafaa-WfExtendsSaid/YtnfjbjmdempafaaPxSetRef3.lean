/- Sets of bytes: the arithmetic, the walks of byteset and of its reference, lists of bytes. -/
import Derived.Laws.BitsAllLaws
import Derived.Test.YtnfjbjmdempafaaProg
import Derived.WalkKit
import Derived.ProofKit
import Derived.Outline
import Derived.Handy
import Derived.Lib.Hide
import Derived.RegionTactic
import Derived.ChangeAlike
import Derived.Laws.AppendOwn
import Derived.Maps.AppendAt
import Derived.Test.YtnfjbjmdempafaaPxBase
namespace Go.Proofs.Ytnfjbjmdempafaa
section

def bitsOf (f : Nat → Bool) : Nat → Nat
  | 0 => 0
  | n + 1 => bitsOf f n + (f n).toNat * 2 ^ n
theorem bitsOf_lt (f : Nat → Bool) (n : Nat) : bitsOf f n < 2 ^ n := by
  induction n with
  | zero => simp [bitsOf]
  | succ n ih =>
    unfold bitsOf
    have : (f n).toNat ≤ 1 := Bool.toNat_le _
    have h2 : (f n).toNat * 2 ^ n ≤ 1 * 2 ^ n := Nat.mul_le_mul_right _ this
    rw [Nat.pow_succ]; omega
theorem testBit_bitsOf (f : Nat → Bool) (n k : Nat) : (bitsOf f n).testBit k = (decide (k < n) && f k) := by
  induction n with
  | zero => simp [bitsOf]
  | succ n ih =>
    have hl := bitsOf_lt f n
    unfold bitsOf
    rw [Nat.add_comm, Nat.mul_comm, Nat.testBit_two_pow_mul_add _ hl]
    by_cases hk : k < n
    · simp [hk, ih, show k < n + 1 from by omega]
    · simp only [hk, if_false]
      by_cases he : k = n
      · subst he; cases f k <;> simp
      · have : k - n ≠ 0 := by omega
        have h1 : ¬ k < n + 1 := by omega
        simp only [h1, decide_false, Bool.false_and]
        cases f n
        · simp
        · obtain ⟨m, hm⟩ : ∃ m, k - n = m + 1 := ⟨k - n - 1, by omega⟩
          rw [hm]; simp [Nat.testBit_succ]
def setW (f : Nat → Bool) (k : Nat) : Int := ((bitsOf (fun j => f (64 * k + j)) 64 : Nat) : Int)
theorem setW_lo (f : Nat → Bool) (k : Nat) : 0 ≤ setW f k := by unfold setW; omega
theorem setW_hi (f : Nat → Bool) (k : Nat) : setW f k ≤ 18446744073709551615 := by
  have := bitsOf_lt (fun j => f (64 * k + j)) 64
  unfold setW; omega
theorem setW_bit (f : Nat → Bool) (k j : Nat) (hj : j < 64) : (setW f k).toNat.testBit j = f (64 * k + j) := by
  unfold setW; rw [Int.toNat_natCast, testBit_bitsOf]; simp [hj]
theorem word_ext {a b : Int} (ha : 0 ≤ a) (ha' : a ≤ 18446744073709551615) (hb : 0 ≤ b) (hb' : b ≤ 18446744073709551615) (h : ∀ j, j < 64 → a.toNat.testBit j = b.toNat.testBit j) : a = b := by
  have : a.toNat = b.toNat := by
    apply Nat.eq_of_testBit_eq
    intro i
    by_cases hi : i < 64
    · exact h i hi
    · have h64 : (2 : Nat) ^ 64 ≤ 2 ^ i := Nat.pow_le_pow_right (by omega) (by omega)
      rw [Nat.testBit_lt_two_pow (by omega), Nat.testBit_lt_two_pow (by omega)]
  omega
theorem setW_ext {a : Int} {f : Nat → Bool} {k : Nat} (ha : 0 ≤ a) (ha' : a ≤ 18446744073709551615) (h : ∀ j, j < 64 → a.toNat.testBit j = f (64 * k + j)) : a = setW f k :=
  word_ext ha ha' (setW_lo _ _) (setW_hi _ _) fun j hj => by rw [h j hj, setW_bit _ _ _ hj]
theorem setW_congr {f g : Nat → Bool} {k : Nat} (h : ∀ j, j < 64 → f (64 * k + j) = g (64 * k + j)) : setW f k = setW g k :=
  setW_ext (setW_lo _ _) (setW_hi _ _) fun j hj => by rw [setW_bit _ _ _ hj, h j hj]
theorem setW_congr' {f g : Nat → Bool} {k : Nat} (hk : k < 4) (h : ∀ i, i < 256 → f i = g i) : setW f k = setW g k :=
  setW_congr fun j hj => h _ (by omega)
end
section

def cnt (f : Nat → Bool) : Nat → Nat
  | 0 => 0
  | n + 1 => cnt f n + (f n).toNat
theorem cnt_le (f : Nat → Bool) (n : Nat) : cnt f n ≤ n := by
  induction n with
  | zero => simp [cnt]
  | succ n ih => unfold cnt; have : (f n).toNat ≤ 1 := Bool.toNat_le _; omega
/-- the steps, on natural numbers -/
def p1 (m x : Nat) : Nat := ((x / 2) &&& m) + (x &&& m)
def p2 (m x : Nat) : Nat := ((x / 4) &&& m) + (x &&& m)
end
section
open Go.RowKit
end
section
open Go.RowKit
/-- block B holds the set f -/
def SetAt (f : Nat → Bool) (B : Nat) (w : World) : Prop := ∀ j, j < 4 → w.cell? ⟨B, j, none⟩ = some (.int .u64 (setW f j)) ∧ w.frozen? ⟨B, j, none⟩ = false
theorem SetAt.drew {f : Nat → Bool} {B : Nat} {w : World} (h : SetAt f B w) : SetAt f B w.drew := fun j hj => by simpa using h j hj
theorem SetAt.congr {f g : Nat → Bool} {B : Nat} {w : World} (h : SetAt f B w) (e : ∀ i, i < 256 → f i = g i) : SetAt g B w := fun j hj => by
  rw [← setW_congr' hj e]; exact h j hj
theorem SetAt.below {f : Nat → Bool} {B n : Nat} {w w' : World} (h : SetAt f B w) (hb : Below n w w') (hB : B < n) : SetAt f B w' := fun j hj =>
  ⟨(hb.cell (p := ⟨B, j, none⟩) hB).trans (h j hj).1, (hb.frozen (p := ⟨B, j, none⟩) hB).trans (h j hj).2⟩
theorem SetAt.new {w : World} {t : TypeId} {f : Nat → Bool} {a b c d : Int} {B : Nat} (hB : B = w.heap.size) (h0 : a = setW f 0) (h1 : b = setW f 1) (h2 : c = setW f 2) (h3 : d = setW f 3) :
    SetAt f B (w.alloc (.cells #[.int .u64 a, .int .u64 b, .int .u64 c, .int .u64 d] t)) := fun j hj => by
  subst hB h0 h1 h2 h3
  have : j = 0 ∨ j = 1 ∨ j = 2 ∨ j = 3 := by omega
  rcases this with rfl | rfl | rfl | rfl <;> simp
/-- the set with one member more -/
def ins (f : Nat → Bool) (k : Nat) : Nat → Bool := fun i => f i || i == k
theorem SetAt.put {f : Nat → Bool} {B k : Nat} {w : World} {v : Int} (h : SetAt f B w) (hv : v = setW (ins f k) (k / 64)) : SetAt (ins f k) B (w.setCell ⟨B, k / 64, none⟩ (.int .u64 v)) := fun j hj => by
  subst hv
  refine ⟨?_, by rw [World.frozen?_setCell]; exact (h j hj).2⟩
  by_cases e : j = k / 64
  · subst e; exact World.cell?_setCell_same' _ _ _ (by rw [(h _ hj).1]; rfl)
  · rw [World.cell?_setCell_other (h := by intro hh; injection hh with _ h2; exact e h2.symm), (h j hj).1]
    congr 2
    refine setW_congr fun i hi => ?_
    have : (64 * j + i == k) = false := by rw [beq_eq_false_iff_ne]; omega
    unfold ins; rw [this]; simp
end
section
open Go.RowKit
end
section
open Go.RowKit
/-- block B holds the four words g -/
def WAt (g : Nat → Int) (B : Nat) (w : World) : Prop := ∀ j, j < 4 → w.cell? ⟨B, j, none⟩ = some (.int .u64 (g j)) ∧ w.frozen? ⟨B, j, none⟩ = false
theorem WAt.put {g : Nat → Int} {B k : Nat} {w : World} {v : Int} (h : WAt g B w) : WAt (fun j => if j = k then v else g j) B (w.setCell ⟨B, k, none⟩ (.int .u64 v)) := fun j hj => by
  refine ⟨?_, by rw [World.frozen?_setCell]; exact (h j hj).2⟩
  by_cases e : j = k
  · subst e; simp only [if_true]; exact World.cell?_setCell_same' _ _ _ (by rw [(h _ hj).1]; rfl)
  · simp only [e, if_false]; rw [World.cell?_setCell_other (h := by intro hh; injection hh with _ h2; exact e h2.symm), (h j hj).1]
theorem WAt.congr {g g' : Nat → Int} {B : Nat} {w : World} (h : WAt g B w) (e : ∀ j, j < 4 → g j = g' j) : WAt g' B w := fun j hj => by
  rw [← e j hj]; exact h j hj
/-- what the words hold when word i has been filled down to its bit m: those before are whole, those behind are 0 -/
def part (f : Nat → Bool) (i m : Nat) : Nat → Int := fun j => if j < i then setW f j else if j = i then setW f i / 2 ^ m else 0
end
section
open Go.RowKit
/-- block B holds the bools f -/
def BAt (f : Nat → Bool) (B : Nat) (w : World) : Prop := ∀ j, j < 256 → w.cell? ⟨B, j, none⟩ = some (.bool (f j)) ∧ w.frozen? ⟨B, j, none⟩ = false
theorem BAt.put {f : Nat → Bool} {B k : Nat} {w : World} (h : BAt f B w) : BAt (ins f k) B (w.setCell ⟨B, k, none⟩ (.bool true)) := fun j hj => by
  refine ⟨?_, by rw [World.frozen?_setCell]; exact (h j hj).2⟩
  unfold ins
  by_cases e : j = k
  · subst e; rw [World.cell?_setCell_same' _ _ _ (by rw [(h _ hj).1]; rfl)]; simp
  · rw [World.cell?_setCell_other (h := by intro hh; injection hh with _ h2; exact e h2.symm), (h j hj).1]
    have : (j == k) = false := by rw [beq_eq_false_iff_ne]; exact e
    rw [this]; simp
/-- block B holds four values, and may be written -/
def Four (B : Nat) (w : World) (x y z u : Value) : Prop :=
  (w.cell? ⟨B, 0, none⟩ = some x ∧ w.cell? ⟨B, 1, none⟩ = some y ∧ w.cell? ⟨B, 2, none⟩ = some z ∧ w.cell? ⟨B, 3, none⟩ = some u) ∧ ∀ o, w.frozen? ⟨B, o, none⟩ = false
theorem Four.new (w : World) (x y z u : Value) (t : TypeId) : Four w.heap.size (w.alloc (.cells #[x, y, z, u] t)) x y z u := by
  unfold Four; refine ⟨⟨?_, ?_, ?_, ?_⟩, fun o => ?_⟩ <;> simp
theorem Four.below {B n : Nat} {w w' : World} {x y z u : Value} (h : Four B w x y z u) (hb : Below n w w') (hB : B < n) : Four B w' x y z u := by
  obtain ⟨⟨h0, h1, h2, h3⟩, hf⟩ := h
  exact ⟨⟨(hb.cell (p := ⟨B, 0, none⟩) hB).trans h0, (hb.cell (p := ⟨B, 1, none⟩) hB).trans h1, (hb.cell (p := ⟨B, 2, none⟩) hB).trans h2, (hb.cell (p := ⟨B, 3, none⟩) hB).trans h3⟩, fun o => (hb.frozen (p := ⟨B, o, none⟩) hB).trans (hf o)⟩
theorem Try.infoBool : (Try.prog.info? 4).map (fun i => (i.zero, i.size, i.bytes)) = some (some (.bool false), 1, 1) := by kernel_rfl
def bools (f : Nat → Bool) (k : Nat) : List Value := (List.range k).map fun i => .bool (f i)
end
end Go.Proofs.Ytnfjbjmdempafaa
