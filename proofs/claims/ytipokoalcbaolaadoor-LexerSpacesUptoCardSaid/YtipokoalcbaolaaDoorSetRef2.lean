/- The contracts of the reference's Of, List and Range: a set out of a list of 256 bools. -/
import Derived.Test.YtipokoalcbaolaaDoorSetRef
import Derived.Laws.AppendOwn
namespace Go.Proofs.YtipokoalcbaolaaDoor
open Go.RowKit
/-- block B holds the four words g -/
def WAt (g : Nat → Int) (B : Nat) (w : World) : Prop := ∀ j, j < 4 → w.cell? ⟨B, j, none⟩ = some (.int .u64 (g j)) ∧ w.frozen? ⟨B, j, none⟩ = false
theorem WAt.put {g : Nat → Int} {B k : Nat} {w : World} {v : Int} (h : WAt g B w) : WAt (fun j => if j = k then v else g j) B (w.setCell ⟨B, k, none⟩ (.int .u64 v)) := fun j hj => by
  refine ⟨?_, by rw [World.frozen?_setCell]; exact (h j hj).2⟩
  by_cases e : j = k
  · subst e; simp only [if_true]; exact World.cell?_setCell_same' _ _ _ (by rw [(h _ hj).1]; rfl)
  · simp only [e, if_false]; rw [World.cell?_setCell_other (h := by intro hh; injection hh with _ h2; exact e h2.symm), (h j hj).1]
theorem WAt.congr {g g' : Nat → Int} {B : Nat} {w : World} (h : WAt g B w) (e : ∀ j, j < 4 → g j = g' j) : WAt g' B w := fun j hj => by
  rw [← e j hj]; exact h j hj
/-- what the words hold when word i has been filled down to its bit m: those before are whole, those behind are 0 -/
def part (f : Nat → Bool) (i m : Nat) : Nat → Int := fun j => if j < i then setW f j else if j = i then setW f i / 2 ^ m else 0
theorem shr_step (f : Nat → Bool) (i m : Nat) (hm : m < 64) : setW f i / 2 ^ m = setW f i / 2 ^ (m + 1) * 2 + (f (64 * i + m)).toNat := by
  have hb := setW_bit f i m hm
  have hlo := setW_lo f i
  obtain ⟨n, hn⟩ := Int.eq_ofNat_of_zero_le hlo
  rw [half, hn]
  rw [hn, Int.toNat_natCast, Nat.testBit, Nat.shiftRight_eq_div_pow, Nat.and_comm 1, Nat.and_one_is_mod] at hb
  have e : ((n : Int) / 2 ^ m) = ((n / 2 ^ m : Nat) : Int) := by
    rw [Int.natCast_ediv, Int.natCast_pow]; rfl
  rw [e]
  generalize n / 2 ^ m = q at *
  rw [← hb]
  rcases Nat.mod_two_eq_zero_or_one q with h | h <;> rw [h] <;> simp <;> omega
theorem shr_all (f : Nat → Bool) (i : Nat) : setW f i / 2 ^ 64 = 0 := by
  have := setW_lo f i; have := setW_hi f i
  omega
theorem part_step (f : Nat → Bool) (i : Nat) (j : Nat) : part f i 0 j = part f (i + 1) 64 j := by
  unfold part
  by_cases h1 : j < i
  · rw [if_pos h1, if_pos (by omega)]
  · by_cases h2 : j = i
    · subst h2; simp
    · rw [if_neg h1, if_neg h2, if_neg (by omega)]
      split
      · exact (shr_all f _).symm
      · rfl
set_option maxHeartbeats 800000 in
theorem rof_any (f : Nat → Bool) (b off cap : Nat) (w : World) (hb0 : b < w.heap.size) (hc : ∀ j, j < 256 → w.cell? ⟨b, off + j, none⟩ = some (.bool (f j))) :
    Calls Tryd.prog 35 #[.slice (some ⟨b, off, none⟩) 256 cap] w
      fun e w' => e = .returned (.agg #[.int .u64 (setW f 0), .int .u64 (setW f 1), .int .u64 (setW f 2), .int .u64 (setW f 3)]) ∧ Below w.heap.size w w' := by
  have HC := Lib.hid hc
  clear hc
  go_enter Tryd.func35, Tryd.ntmps35
  go_wp2
  go_loopw [4] (fun c wr => ∃ i : Nat, i ≤ 4 ∧ c = .int .i64 i ∧ WAt (part f i 64) (w.heap.size + 1) wr ∧ Below (w.heap.size + 1) (w.alloc (.cells #[.int .u64 0, .int .u64 0, .int .u64 0, .int .u64 0] 34)) wr ∧ w.heap.size + 1 < wr.heap.size) (fun c _ => (4 - (intOf c).toNat))
  case atStart =>
    refine ⟨0, by omega, rfl, ?_, (Below.refl _ _).alloc (by simp) _, by simp⟩
    intro j hj
    have e : part f 0 64 j = 0 := by
      unfold part; rw [if_neg (by omega)]; split
      · exact shr_all f _
      · rfl
    rw [e]
    have : j = 0 ∨ j = 1 ∨ j = 2 ∨ j = 3 := by omega
    rcases this with rfl | rfl | rfl | rfl <;> simp
  case round =>
    obtain ⟨i, hi, rfl, hs, hb, hz⟩ := hrel
    by_cases hlt : i < 4
    · go_wp2
      obtain ⟨wo, rfl⟩ : ∃ wo : World, wo = wr := ⟨_, rfl⟩
      go_loopw [5] (fun c wr => ∃ m : Nat, m ≤ 64 ∧ c = .int .i64 ((m : Int) - 1) ∧ WAt (part f i m) (w.heap.size + 1) wr ∧ Below (w.heap.size + 1) (w.alloc (.cells #[.int .u64 0, .int .u64 0, .int .u64 0, .int .u64 0] 34)) wr ∧ w.heap.size + 1 < wr.heap.size) (fun c _ => (intOf c + 1).toNat)
      case atStart => exact ⟨64, by omega, by simp, hs, hb, hz⟩
      case round =>
        obtain ⟨m, hm, rfl, hs, hb, hz⟩ := hrel
        by_cases h0 : m = 0
        · subst h0
          go_wp2
          exact ⟨⟨i + 1, by omega, by go_num, hs.congr fun j _ => part_step f i j, hb, hz⟩, by simp [intOf]; omega⟩
        · obtain ⟨m, rfl⟩ : ∃ n, m = n + 1 := ⟨m - 1, by omega⟩
          have hc0 := (hs i hlt).1
          have hf0 := (hs i hlt).2
          have hst := shr_step f i m (by omega)
          have hcell : wr.cell? ⟨b, off + (64 * i + m), none⟩ = some (.bool (f (64 * i + m))) := by
            rw [(bcell hb).1 b _ (by omega), World.cell?_alloc_lt (h := hb0)]; exact HC.out _ (by omega)
          have hpx : part f i (m + 1) i = setW f i / 2 ^ (m + 1) := by unfold part; simp
          have hx0 : 0 ≤ setW f i / 2 ^ (m + 1) := Int.ediv_nonneg (setW_lo _ _) (Int.pow_nonneg (by omega))
          have hx1 : setW f i / 2 ^ m ≤ 18446744073709551615 := Int.le_trans (Int.ediv_le_self _ (setW_lo _ _)) (setW_hi _ _)
          rw [hst] at hx1
          have hnew : ∀ v, v = setW f i / 2 ^ m → ∀ j, j < 4 → (if j = i then v else part f i (m + 1) j) = part f i m j := by
            intro v hv j _
            subst hv; unfold part
            by_cases e : j = i
            · subst e; simp
            · simp [e]
          have HN := Lib.hid hnew
          have HS := Lib.hid hst
          rw [hpx] at hc0
          clear hnew hst hpx
          generalize setW f i / 2 ^ (m + 1) = x at *
          cases hbit : f (64 * i + m)
          · rw [hbit] at HS hx1 hcell
            have hx2 : x * 2 ≤ 18446744073709551615 := by simpa using hx1
            go_wp2
            exact ⟨⟨m, by omega, by go_num, hs.put.congr (HN.out _ (by rw [HS.out]; simp)), hb.setCell (Nat.le_refl _) _, by simpa using hz⟩, by simp [intOf]⟩
          · rw [hbit] at HS hx1 hcell
            have hx2 : x * 2 + 1 ≤ 18446744073709551615 := by simpa using hx1
            go_wp2
            exact ⟨⟨m, by omega, by go_num, (hs.put.put (k := i)).congr (fun j hj => by rw [← HN.out (x * 2 + 1) (by rw [HS.out]; simp) j hj]; split <;> rfl), (hb.setCell (Nat.le_refl _) _).setCell (Nat.le_refl _) _, by simpa using hz⟩, by simp [intOf]⟩
    · obtain rfl : i = 4 := by omega
      have hs4 : SetAt f (w.heap.size + 1) wr := fun j hj => by
        have := hs j hj
        unfold part at this; rw [if_pos hj] at this; exact this
      obtain ⟨⟨c0, c1, c2, c3⟩, -⟩ := hs4.four
      obtain ⟨d0, d1, d2, d3⟩ := cells4 hb (by omega)
      obtain ⟨-, hfz⟩ := bcell hb
      clear HC hs hs4
      go_wp2
      refine bodyPost_ret (v := .agg #[.int .u64 (setW f 0), .int .u64 (setW f 1), .int .u64 (setW f 2), .int .u64 (setW f 3)]) (by simp [results, Tryd.results35, go_sem, d0, d1, d2, d3]) rfl ⟨rfl, ?_⟩
      exact ((((((Below.refl _ w).alloc (Nat.le_refl _) _).trans (hb.mono (by omega))).setCell (Nat.le_refl _) _).setCell (Nat.le_refl _) _).setCell (Nat.le_refl _) _).setCell (Nat.le_refl _) _
theorem rof_row (f : Nat → Bool) (v : Value) (w : World) (hv : RowAt w v ((List.range 256).map fun i => .bool (f i))) :
    Calls Tryd.prog 35 #[v] w
      fun e w' => e = .returned (.agg #[.int .u64 (setW f 0), .int .u64 (setW f 1), .int .u64 (setW f 2), .int .u64 (setW f 3)]) ∧ Below w.heap.size w w' := by
  obtain ⟨a, cap, rfl, hcs⟩ := hv
  obtain ⟨b, off, rfl, hc⟩ := hcs.resolve_left (by simp)
  have hg : ∀ j, j < 256 → w.cell? ⟨b, off + j, none⟩ = some (.bool (f j)) := fun j hj => hc j _ (by rw [List.getElem?_map, List.getElem?_range hj]; rfl)
  rw [List.length_map, List.length_range]
  exact rof_any f b off cap w (block_lt_of_cell (hg 0 (by omega))) hg
end Go.Proofs.YtipokoalcbaolaaDoor
