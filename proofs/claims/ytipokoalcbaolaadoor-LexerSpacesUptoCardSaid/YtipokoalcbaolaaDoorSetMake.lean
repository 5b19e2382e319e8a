/- The contract of byteset.Range: for every pair of bytes, the set of the bytes between them. And what a set in memory is. -/
import Derived.Test.YtipokoalcbaolaaDoorSetWalks
import Derived.RegionTactic
import Derived.ChangeAlike
namespace Go.Proofs.YtipokoalcbaolaaDoor
open Go.RowKit
/-- block B holds the set f -/
def SetAt (f : Nat → Bool) (B : Nat) (w : World) : Prop := ∀ j, j < 4 → w.cell? ⟨B, j, none⟩ = some (.int .u64 (setW f j)) ∧ w.frozen? ⟨B, j, none⟩ = false
theorem SetAt.drew {f : Nat → Bool} {B : Nat} {w : World} (h : SetAt f B w) : SetAt f B w.drew := fun j hj => by simpa using h j hj
theorem SetAt.congr {f g : Nat → Bool} {B : Nat} {w : World} (h : SetAt f B w) (e : ∀ i, i < 256 → f i = g i) : SetAt g B w := fun j hj => by
  rw [← setW_congr' hj e]; exact h j hj
theorem SetAt.below {f : Nat → Bool} {B n : Nat} {w w' : World} (h : SetAt f B w) (hb : Below n w w') (hB : B < n) : SetAt f B w' := fun j hj =>
  ⟨(hb.cell (p := ⟨B, j, none⟩) hB).trans (h j hj).1, (hb.frozen (p := ⟨B, j, none⟩) hB).trans (h j hj).2⟩
theorem SetAt.four {f : Nat → Bool} {B : Nat} {w : World} (h : SetAt f B w) :
    (w.cell? ⟨B, 0, none⟩ = some (.int .u64 (setW f 0)) ∧ w.cell? ⟨B, 1, none⟩ = some (.int .u64 (setW f 1)) ∧ w.cell? ⟨B, 2, none⟩ = some (.int .u64 (setW f 2)) ∧ w.cell? ⟨B, 3, none⟩ = some (.int .u64 (setW f 3)))
      ∧ (w.frozen? ⟨B, 0, none⟩ = false ∧ w.frozen? ⟨B, 1, none⟩ = false ∧ w.frozen? ⟨B, 2, none⟩ = false ∧ w.frozen? ⟨B, 3, none⟩ = false) :=
  ⟨⟨(h 0 (by omega)).1, (h 1 (by omega)).1, (h 2 (by omega)).1, (h 3 (by omega)).1⟩, ⟨(h 0 (by omega)).2, (h 1 (by omega)).2, (h 2 (by omega)).2, (h 3 (by omega)).2⟩⟩
theorem SetAt.new {w : World} {t : TypeId} {f : Nat → Bool} {a b c d : Int} {B : Nat} (hB : B = w.heap.size) (h0 : a = setW f 0) (h1 : b = setW f 1) (h2 : c = setW f 2) (h3 : d = setW f 3) :
    SetAt f B (w.alloc (.cells #[.int .u64 a, .int .u64 b, .int .u64 c, .int .u64 d] t)) := fun j hj => by
  subst hB h0 h1 h2 h3
  have : j = 0 ∨ j = 1 ∨ j = 2 ∨ j = 3 := by omega
  rcases this with rfl | rfl | rfl | rfl <;> simp
/-- the set with one member more -/
def ins (f : Nat → Bool) (k : Nat) : Nat → Bool := fun i => f i || i == k
theorem pow_word (k : Nat) : IntKind.u64.wrap (2 ^ (k % 64)) = setW (fun i => i == k) (k / 64) := by
  have hp : (2 : Nat) ^ (k % 64) < 2 ^ 64 := Nat.pow_lt_pow_right (by omega) (by omega)
  have e : (2 : Int) ^ (k % 64) = ((2 ^ (k % 64) : Nat) : Int) := by rw [Int.natCast_pow]; rfl
  generalize hq : (2 : Nat) ^ (k % 64) = q at hp e
  rw [e, wrap_u64_of _ (by omega) (by omega)]
  refine setW_ext (by omega) (by omega) fun j hj => ?_
  rw [Int.toNat_natCast, ← hq, Nat.testBit_two_pow]
  rw [Bool.eq_iff_iff]; simp; omega
theorem ins_word (f : Nat → Bool) (k : Nat) : bits BinOp.or IntKind.u64 (setW f (k / 64)) (IntKind.u64.wrap (2 ^ (k % 64))) = setW (ins f k) (k / 64) := by
  rw [pow_word, or_word]; rfl
theorem SetAt.put {f : Nat → Bool} {B k : Nat} {w : World} {v : Int} (h : SetAt f B w) (hv : v = setW (ins f k) (k / 64)) : SetAt (ins f k) B (w.setCell ⟨B, k / 64, none⟩ (.int .u64 v)) := fun j hj => by
  subst hv
  refine ⟨?_, by rw [World.frozen?_setCell]; exact (h j hj).2⟩
  by_cases e : j = k / 64
  · subst e; exact World.cell?_setCell_same' _ _ _ (by rw [(h _ hj).1]; rfl)
  · rw [World.cell?_setCell_other (h := by intro hh; injection hh with _ h2; exact e h2.symm), (h j hj).1]
    congr 2
    refine setW_congr fun i hi => ?_
    have : (64 * j + i == k) = false := by rw [beq_eq_false_iff_ne]; omega
    unfold ins; rw [this]; simp
def inR (lo hi : Nat) : Nat → Bool := fun i => decide (lo ≤ i) && decide (i < hi)
theorem inR_none (lo k : Nat) : setW (inR lo lo) k = 0 := by
  have : inR lo lo = fun _ => false := by funext i; unfold inR; simp
  rw [this, setW_none]
theorem inR_ins (lo k i : Nat) (h : lo ≤ k) : ins (inR lo k) k i = inR lo (k + 1) i := by
  unfold ins inR; rw [Bool.eq_iff_iff]; simp; omega
set_option maxHeartbeats 400000 in
theorem range_any (lo hi : Int) (w : World) (h0 : 0 ≤ lo) (h1 : lo ≤ 255) (h2 : 0 ≤ hi) (h3 : hi ≤ 255) :
    Calls Tryd.prog 17 #[.int .u8 lo, .int .u8 hi] w
      fun e w' => e = .returned (.agg #[.int .u64 (setW (inR lo.toNat (hi.toNat + 1)) 0), .int .u64 (setW (inR lo.toNat (hi.toNat + 1)) 1), .int .u64 (setW (inR lo.toNat (hi.toNat + 1)) 2), .int .u64 (setW (inR lo.toNat (hi.toNat + 1)) 3)]) ∧ Below w.heap.size w w' := by
  go_enter Tryd.func17, Tryd.ntmps17
  go_wp2
  go_loopw [6] (fun c wr => ∃ k : Nat, lo.toNat ≤ k ∧ (k ≤ lo.toNat ∨ k ≤ hi.toNat + 1) ∧ c = .int .i64 k ∧ SetAt (inR lo.toNat k) (w.heap.size + 1) wr ∧ Below (w.heap.size + 1) (w.alloc (.cells #[.int .u64 0, .int .u64 0, .int .u64 0, .int .u64 0] 34)) wr ∧ w.heap.size + 1 < wr.heap.size) (fun c _ => (256 - (intOf c).toNat))
  case atStart =>
    exact ⟨lo.toNat, Nat.le_refl _, .inl (Nat.le_refl _), by congr 1; omega, SetAt.new (by simp) (inR_none _ _).symm (inR_none _ _).symm (inR_none _ _).symm (inR_none _ _).symm, (Below.refl _ _).alloc (by simp) _, by simp⟩
  case round =>
    obtain ⟨k, hk1, hk2, rfl, hs, hb, hz⟩ := hrel
    by_cases hlt : (k : Int) ≤ hi
    · have hc := (hs (k / 64) (by omega)).1
      have hf := (hs (k / 64) (by omega)).2
      go_wp2
      go_region
      go_wp2
      go_roundw
      case rel => exact ⟨k + 1, by omega, .inr (by omega), by go_num, ((hs.put (ins_word _ _)).congr fun i _ => inR_ins _ _ _ hk1).drew, (hb.setCell (Nat.le_refl _) _).drew, by simpa using hz⟩
      case measure => simp [intOf]; omega
    · have e : setW (inR lo.toNat k) = setW (inR lo.toNat (hi.toNat + 1)) := by
        by_cases hle : k = hi.toNat + 1
        · rw [hle]
        · have : inR lo.toNat k = inR lo.toNat (hi.toNat + 1) := by
            funext i; unfold inR; rw [Bool.eq_iff_iff]; simp; omega
          rw [this]
      have e0 := congrFun e 0; have e1 := congrFun e 1; have e2 := congrFun e 2; have e3 := congrFun e 3
      have E0 := Lib.hid e0; have E1 := Lib.hid e1; have E2 := Lib.hid e2; have E3 := Lib.hid e3
      clear e e0 e1 e2 e3
      obtain ⟨⟨c0, c1, c2, c3⟩, -⟩ := hs.four
      obtain ⟨d0, d1, d2, d3⟩ := cells4 hb (by omega)
      obtain ⟨-, hfz⟩ := bcell hb
      go_wp2
      refine bodyPost_ret (v := .agg #[.int .u64 (setW (inR lo.toNat k) 0), .int .u64 (setW (inR lo.toNat k) 1), .int .u64 (setW (inR lo.toNat k) 2), .int .u64 (setW (inR lo.toNat k) 3)]) (by simp [results, Tryd.results17, go_sem, d0, d1, d2, d3]) rfl ⟨ret_set E0.out E1.out E2.out E3.out, ?_⟩
      exact ((((((Below.refl _ w).alloc (Nat.le_refl _) _).trans (hb.mono (by omega))).setCell (Nat.le_refl _) _).setCell (Nat.le_refl _) _).setCell (Nat.le_refl _) _).setCell (Nat.le_refl _) _
end Go.Proofs.YtipokoalcbaolaaDoor
