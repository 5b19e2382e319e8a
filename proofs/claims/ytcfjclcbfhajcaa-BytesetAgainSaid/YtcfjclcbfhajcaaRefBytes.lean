/- The contract of the reference's Bytes: the members of the set, in ascending order. -/
import Derived.Test.YtcfjclcbfhajcaaBytes
namespace Go.Proofs.Ytcfjclcbfhajcaa
open Go.RowKit Go.Shelf
theorem rhas_nat (f : Nat → Bool) (k : Nat) (b : Bool) (hb : f k = b) (w : World) (hk : k < 256) :
    Calls Try.prog 10 #[.agg #[.int .u64 (setW f 0), .int .u64 (setW f 1), .int .u64 (setW f 2), .int .u64 (setW f 3)], .int .u8 (k : Int)] w fun e w' => e = .returned (.bool b) ∧ Below w.heap.size w w' := by
  subst hb
  have h := rhas_any f (k : Int) w (by omega) (by omega)
  rw [Int.toNat_natCast] at h
  exact h
def u8s (l : List Nat) : List Value := l.map fun k : Nat => Value.int .u8 (k : Int)
theorem ownsRow_grown {W w1 : World} {base : Nat} {e : TypeId} {size : Nat} {v : Value} {k : Nat} {xs : List Value} (h : W.ownsRow base e size v k xs) (hb : Below W.heap.size W w1) : w1.ownsRow base e size v k xs := by
  refine h.kept (grownBy_of_below hb) ?_
  cases hv : v.ownBlock with
  | none => exact .inl rfl
  | some b => exact .inr (by simp)
theorem u8s_snoc (l : List Nat) (k : Nat) : u8s (l ++ [k]) = u8s l ++ [.int .u8 (k : Int)] := by unfold u8s; rw [List.map_append]; rfl
set_option maxHeartbeats 800000 in
set_option maxRecDepth 100000 in
theorem rbytes_any (f : Nat → Bool) (w : World) :
    Calls Try.prog 12 #[.agg #[.int .u64 (setW f 0), .int .u64 (setW f 1), .int .u64 (setW f 2), .int .u64 (setW f 3)]] w fun e W' =>
      ∃ v, e = .returned v ∧ W'.ownsRow w.heap.size 5 1 v (memb f 256).length (u8s (memb f 256)) ∧ Below w.heap.size w W' := by
  obtain ⟨i0, hi0, hz0, hz1, hz2⟩ := info_parts Try.infoU8
  go_enter Try.func12, Try.ntmps12
  go_wp2
  obtain ⟨S, hSv⟩ : ∃ S : Obj, S = .cells #[.int .u64 (setW f 0), .int .u64 (setW f 1), .int .u64 (setW f 2), .int .u64 (setW f 3)] 24 := ⟨_, rfl⟩
  have hS0 : SetAt f w.heap.size (w.alloc S) := by rw [hSv]; exact SetAt.new rfl rfl rfl rfl rfl
  simp only [← hSv]
  clear hSv
  go_loopw [3, 4] (fun v c wr => ∃ k : Nat, k ≤ 256 ∧ c = .int .i64 k ∧ wr.ownsRow (w.heap.size + 1) 5 1 v (memb f k).length (u8s (memb f k)) ∧ Below (w.heap.size + 1) (w.alloc S) wr) (fun _ c _ => (256 - (intOf c).toNat))
  case atStart =>
    exact ⟨0, Nat.zero_le _, rfl, World.ownsRow_nil _ _ _ _, Below.refl _ _⟩
  case round =>
    obtain ⟨k, hk, rfl, hs, hb⟩ := hrel
    have hz := hb.size
    rw [World.size_alloc] at hz
    by_cases hlt : k < 256
    · have hS := hS0.below hb (Nat.lt_succ_self _)
      obtain ⟨⟨c0, c1, c2, c3⟩, -⟩ := hS.four
      have hml := memb_len f k
      have hms := memb_succ f k
      cases hfk : f k
      · rw [hfk] at hms
        have HM := Lib.hid hms
        have HF := Lib.hid hfk
        clear hms hfk
        go_wp2_with (go_at_call 10; refine (rhas_nat f k false HF.out _ hlt).mono ?_; rintro e w1 ⟨rfl, hb1⟩)
        have hb2 := hb.trans (hb1.mono (by omega))
        have hs2 := ownsRow_grown hs hb1
        exact ⟨⟨k + 1, by omega, by go_num, by rw [HM.out]; simpa using hs2, hb2⟩, by simp [intOf]; omega⟩
      · rw [hfk] at hms
        have HM := Lib.hid hms
        have HF := Lib.hid hfk
        clear hms hfk
        go_wp2_with (first | (go_at_call 10; refine (rhas_nat f k true HF.out _ hlt).mono ?_; rintro e w1 ⟨rfl, hb1⟩; have hs1 := ownsRow_grown hs hb1; have hsz1 := hb1.size) | (at_builtin; refine wpList_append_own _ rfl _ _ 27 rfl (w.heap.size + 1) 5 i0 (.int .u8 0) 1 1 Try.underlying27 hi0 hz0 hz1 hz2 rfl (by decide) _ _ _ rfl (hs1.alloc _) ⟨w1.heap.size, 0, none⟩ 1 1 [.int .u8 (k : Int)] rfl rfl (cell_one_new _ _ _) (by simp [Value.oneCell']) (by unfold maxLen; omega) (by omega) (by simp; omega) ?_; intro v' w2 hown' hgrow _))
        have hb2 := ((hb.trans (hb1.mono (by omega))).alloc (by omega) (.cells #[_] 5)).grown hgrow (by simp; omega) (fun k e => (hs1.lt k e).1)
        rw [← u8s_snoc] at hown'
        exact ⟨⟨k + 1, by omega, by go_num, by rw [HM.out]; simpa using hown', hb2⟩, by simp [intOf]; omega⟩
    · obtain rfl : k = 256 := by omega
      clear hS0
      go_wp2
      go_ret
      exact ⟨_, rfl, ownsRow_base hs (by omega), ((Below.refl _ w).alloc (Nat.le_refl _) S).trans (hb.mono (by omega))⟩
end Go.Proofs.Ytcfjclcbfhajcaa
