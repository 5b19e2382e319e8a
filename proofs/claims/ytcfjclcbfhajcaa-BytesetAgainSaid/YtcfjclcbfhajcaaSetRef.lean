/- The contracts of byteset.Of and of the reference's Has and Of. -/
import Derived.Test.YtcfjclcbfhajcaaSetMake
namespace Go.Proofs.Ytcfjclcbfhajcaa
open Go.RowKit
/-- a slice of n elements, each of one cell, that reads as cs -/
def RowAt (w : World) (v : Value) (cs : List Value) : Prop := ∃ a cap, v = .slice a cs.length cap ∧ (cs = [] ∨ ∃ b off, a = some ⟨b, off, none⟩ ∧ ∀ i c, cs[i]? = some c → w.cell? ⟨b, off + i, none⟩ = some c)
def lset (l : List Int) : Nat → Bool := fun i => l.any fun x => i == x.toNat
theorem lset_snoc (l : List Int) (x : Int) : lset (l ++ [x]) = ins (lset l) x.toNat := by
  funext i; unfold lset ins; rw [List.any_append]; simp
theorem take_snoc' {α : Type} (l : List α) (k : Nat) (x : α) (h : l[k]? = some x) : l.take (k + 1) = l.take k ++ [x] := by
  obtain ⟨h1, h2⟩ := List.getElem?_eq_some_iff.1 h
  rw [List.take_succ_eq_append_getElem h1, h2]
set_option maxHeartbeats 400000 in
theorem of_any (l : List Int) (v : Value) (w : World) (hv : RowAt w v (l.map (Value.int .u8))) (hl : ∀ x, x ∈ l → 0 ≤ x ∧ x ≤ 255) (hn : l.length ≤ 9223372036854775807) :
    Calls Try.prog 16 #[v] w
      fun e w' => e = .returned (.agg #[.int .u64 (setW (lset l) 0), .int .u64 (setW (lset l) 1), .int .u64 (setW (lset l) 2), .int .u64 (setW (lset l) 3)]) ∧ Below w.heap.size w w' := by
  obtain ⟨a, cap, rfl, hcs⟩ := hv
  rw [List.length_map]
  have HC := Lib.hid hcs
  have HL := Lib.hid hl
  clear hcs hl
  go_enter Try.func16, Try.ntmps16
  go_wp2
  go_loopw [8] (fun c wr => ∃ k : Nat, k ≤ l.length ∧ c = .int .i64 k ∧ SetAt (lset (l.take k)) (w.heap.size + 1) wr ∧ Below (w.heap.size + 1) (w.alloc (.cells #[.int .u64 0, .int .u64 0, .int .u64 0, .int .u64 0] 24)) wr ∧ w.heap.size + 1 < wr.heap.size) (fun c _ => (l.length - (intOf c).toNat))
  case atStart =>
    have e : lset (l.take 0) = fun _ => false := by funext i; simp [lset]
    exact ⟨0, Nat.zero_le _, rfl, by rw [e]; exact SetAt.new (by simp) (setW_none _).symm (setW_none _).symm (setW_none _).symm (setW_none _).symm, (Below.refl _ _).alloc (by simp) _, by simp⟩
  case round =>
    obtain ⟨k, hk, rfl, hs, hb, hz⟩ := hrel
    by_cases hlt : k < l.length
    · obtain ⟨x, hx⟩ : ∃ x, l[k]? = some x := ⟨l[k], by simp [hlt]⟩
      obtain ⟨hx0, hx1⟩ := HL.out x (List.mem_of_getElem? hx)
      obtain ⟨n, rfl⟩ := Int.eq_ofNat_of_zero_le hx0
      obtain ⟨b, off, rfl, hcell⟩ := HC.out.resolve_left (by intro h; rw [List.map_eq_nil_iff] at h; rw [h] at hlt; simp at hlt)
      have hc0 := hcell k (.int .u8 n) (by rw [List.getElem?_map, hx]; rfl)
      have hblk := block_lt_of_cell hc0
      have hc1 : wr.cell? ⟨b, off + k, none⟩ = some (.int .u8 n) := by
        rw [(bcell hb).1 b _ (by simpa using Nat.lt_succ_of_lt hblk), World.cell?_alloc_lt (h := hblk)]; exact hc0
      have hc := (hs (n / 64) (by omega)).1
      have hf := (hs (n / 64) (by omega)).2
      have ht := Lib.hid (take_snoc' l k _ hx)
      clear hc0 hcell hx
      go_wp2
      go_roundw
      case rel =>
        have hs' := hs.put (ins_word _ n)
        exact ⟨k + 1, by omega, by go_num, by rw [ht.out, lset_snoc]; exact hs', hb.setCell (Nat.le_refl _) _, by simpa using hz⟩
      case measure => simp [intOf]; omega
    · have e : l.take k = l := List.take_of_length_le (by omega)
      rw [e] at hs
      obtain ⟨⟨c0, c1, c2, c3⟩, -⟩ := hs.four
      obtain ⟨d0, d1, d2, d3⟩ := cells4 hb (by omega)
      obtain ⟨-, hfz⟩ := bcell hb
      clear e HC HL
      go_wp2
      refine bodyPost_ret (v := .agg #[.int .u64 (setW (lset l) 0), .int .u64 (setW (lset l) 1), .int .u64 (setW (lset l) 2), .int .u64 (setW (lset l) 3)]) (by simp [results, Try.results16, go_sem, d0, d1, d2, d3]) rfl ⟨rfl, ?_⟩
      exact ((((((Below.refl _ w).alloc (Nat.le_refl _) _).trans (hb.mono (by omega))).setCell (Nat.le_refl _) _).setCell (Nat.le_refl _) _).setCell (Nat.le_refl _) _).setCell (Nat.le_refl _) _
/- the reference's Has: the word is halved again and again -/
theorem has_mod (f : Nat → Bool) (i : Nat) : (setW f (i / 64) / 2 ^ (i % 64) % 2 == 1) = f i := by
  have hlo := setW_lo f (i / 64)
  have hhi := setW_hi f (i / 64)
  have hb := setW_bit f (i / 64) (i % 64) (by omega)
  rw [show 64 * (i / 64) + i % 64 = i from by omega] at hb
  rw [← hb]
  obtain ⟨n, hn⟩ := Int.eq_ofNat_of_zero_le hlo
  rw [hn, Int.toNat_natCast]
  have e : ((n : Int) / 2 ^ (i % 64)) = ((n / 2 ^ (i % 64) : Nat) : Int) := by
    rw [Int.natCast_ediv, Int.natCast_pow]; rfl
  rw [e, Nat.testBit, Nat.shiftRight_eq_div_pow, Nat.and_comm 1]
  rw [Bool.eq_iff_iff]
  simp only [beq_iff_eq, bne_iff_ne, ne_eq, Nat.and_one_is_mod]
  omega
theorem half (x : Int) (k : Nat) : x / 2 ^ (k + 1) = x / 2 ^ k / 2 := by
  rw [Int.pow_succ, Int.ediv_ediv_of_nonneg (Int.pow_nonneg (by omega))]
set_option maxHeartbeats 400000 in
theorem rhas_any (f : Nat → Bool) (c : Int) (w : World) (h0 : 0 ≤ c) (h1 : c ≤ 255) :
    Calls Try.prog 10 #[.agg #[.int .u64 (setW f 0), .int .u64 (setW f 1), .int .u64 (setW f 2), .int .u64 (setW f 3)], .int .u8 c] w fun e w' => e = .returned (.bool (f c.toNat)) ∧ Below w.heap.size w w' := by
  obtain ⟨i, rfl⟩ := Int.eq_ofNat_of_zero_le h0
  have hi : [Value.int IntKind.u64 (setW f 0), Value.int IntKind.u64 (setW f 1), Value.int IntKind.u64 (setW f 2), Value.int IntKind.u64 (setW f 3)][i / 64]? = some (.int .u64 (setW f (i / 64))) := by
    have : i / 64 = 0 ∨ i / 64 = 1 ∨ i / 64 = 2 ∨ i / 64 = 3 := by omega
    rcases this with h | h | h | h <;> rw [h] <;> rfl
  have hm := Lib.hid (has_mod f i)
  have l0 := Lib.hid (setW_lo f (i / 64))
  have l1 := Lib.hid (setW_hi f (i / 64))
  go_enter Try.func10, Try.ntmps10
  go_wp2
  go_loop [5, 6] (fun x j => ∃ k : Nat, k ≤ i % 64 ∧ j = .int .i64 k ∧ x = .int .u64 (setW f (i / 64) / 2 ^ k)) (fun _ j => (64 - (intOf j).toNat))
  case atStart => exact ⟨0, Nat.zero_le _, rfl, by simp⟩
  case round =>
    obtain ⟨k, hk, rfl, rfl⟩ := hrel
    have hx0 : 0 ≤ setW f (i / 64) / 2 ^ k := Int.ediv_nonneg l0.out (Int.pow_nonneg (by omega))
    have hx1 : setW f (i / 64) / 2 ^ k ≤ 18446744073709551615 := Int.le_trans (Int.ediv_le_self _ l0.out) l1.out
    have he := half (setW f (i / 64)) k
    obtain ⟨x, hx⟩ : ∃ x, x = setW f (i / 64) / 2 ^ k := ⟨_, rfl⟩
    rw [← hx] at hx0 hx1 he ⊢
    have HE := Lib.hid he
    have HX := Lib.hid hx
    clear hx he
    by_cases hlt : k < i % 64
    · go_wp2
      go_round
      case rel => exact ⟨k + 1, by omega, by go_num, by rw [HE.out]⟩
      case measure => simp [intOf]; omega
    · go_wp2
      go_ret
      refine ⟨ret_bool ?_, by go_grown⟩
      rw [HX.out, show k = i % 64 from by omega]; exact hm.out
end Go.Proofs.Ytcfjclcbfhajcaa
