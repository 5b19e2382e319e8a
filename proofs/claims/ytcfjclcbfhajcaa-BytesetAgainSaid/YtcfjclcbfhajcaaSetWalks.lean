/- The contracts of the small functions of package byteset (Has, Union, Meet, Not, Full, Count) and of math/bits.OnesCount64, each for every set that is handed in. -/
import Derived.Test.YtcfjclcbfhajcaaProg
import Derived.Test.YtcfjclcbfhajcaaPopMath
import Derived.WalkKit
import Derived.ProofKit
import Derived.Outline
import Derived.Handy
import Derived.Lib.Hide
namespace Go.Proofs.Ytcfjclcbfhajcaa
open Go.RowKit
theorem ix0 (x y z u : Value) (w : World) : (Instr.index 24 (.agg #[x, y, z, u]) (.int .i64 0)).run Try.prog w = .ok x w := by kernel_rfl
theorem ix1 (x y z u : Value) (w : World) : (Instr.index 24 (.agg #[x, y, z, u]) (.int .i64 1)).run Try.prog w = .ok y w := by kernel_rfl
theorem ix2 (x y z u : Value) (w : World) : (Instr.index 24 (.agg #[x, y, z, u]) (.int .i64 2)).run Try.prog w = .ok z w := by kernel_rfl
theorem ix3 (x y z u : Value) (w : World) : (Instr.index 24 (.agg #[x, y, z, u]) (.int .i64 3)).run Try.prog w = .ok u w := by kernel_rfl
theorem bcell {n : Nat} {W w1 : World} (hb : Below n W w1) : (∀ b o, b < n → w1.cell? ⟨b, o, none⟩ = W.cell? ⟨b, o, none⟩) ∧ (∀ b o, b < n → w1.frozen? ⟨b, o, none⟩ = W.frozen? ⟨b, o, none⟩) :=
  ⟨fun b o h => hb.cell (p := ⟨b, o, none⟩) h, fun b o h => hb.frozen (p := ⟨b, o, none⟩) h⟩
theorem cells4 {n : Nat} {w w1 : World} {x y z u : Value} {t : TypeId} (hb : Below n (w.alloc (.cells #[x, y, z, u] t)) w1) (hn : w.heap.size < n) :
    w1.cell? ⟨w.heap.size, 0, none⟩ = some x ∧ w1.cell? ⟨w.heap.size, 1, none⟩ = some y ∧ w1.cell? ⟨w.heap.size, 2, none⟩ = some z ∧ w1.cell? ⟨w.heap.size, 3, none⟩ = some u := by
  refine ⟨?_, ?_, ?_, ?_⟩
  · rw [(bcell hb).1 _ _ hn]; simp
  · rw [(bcell hb).1 _ _ hn]; simp
  · rw [(bcell hb).1 _ _ hn]; simp
  · rw [(bcell hb).1 _ _ hn]; simp
theorem ret_bool {a b : Bool} (h : a = b) : Ending.returned (.bool a) = .returned (.bool b) := by rw [h]
theorem ret_int {k : IntKind} {a b : Int} (h : a = b) : Ending.returned (.int k a) = .returned (.int k b) := by rw [h]
theorem set_at (f : Nat → Bool) (c : Int) (h0 : 0 ≤ c) (h1 : c ≤ 255) : [Value.int IntKind.u64 (setW f 0), Value.int IntKind.u64 (setW f 1), Value.int IntKind.u64 (setW f 2), Value.int IntKind.u64 (setW f 3)][(c / 64).toNat]? = some (.int .u64 (setW f (c / 64).toNat)) := by
  have : c / 64 = 0 ∨ c / 64 = 1 ∨ c / 64 = 2 ∨ c / 64 = 3 := by omega
  rcases this with h | h | h | h <;> rw [h] <;> rfl
set_option maxHeartbeats 400000 in
theorem has_any (f : Nat → Bool) (c : Int) (w : World) (h0 : 0 ≤ c) (h1 : c ≤ 255) :
    Calls Try.prog 9 #[.agg #[.int .u64 (setW f 0), .int .u64 (setW f 1), .int .u64 (setW f 2), .int .u64 (setW f 3)], .int .u8 c] w fun e w' => e = .returned (.bool (f c.toNat)) ∧ Below w.heap.size w w' := by
  have hi := set_at f c h0 h1
  have l0 := setW_lo f (c / 64).toNat
  have l1 := setW_hi f (c / 64).toNat
  have hb := has_bit f c.toNat
  rw [show c.toNat / 64 = (c / 64).toNat from by omega, show c.toNat % 64 = (c % 64).toNat from by omega] at hb
  have HB := Lib.hid hb
  clear hb
  go_enter Try.func9, Try.ntmps9
  go_wp2
  go_ret
  exact ⟨ret_bool HB.out, by go_grown⟩
theorem ret_set {a b c d a' b' c' d' : Int} (h0 : a = a') (h1 : b = b') (h2 : c = c') (h3 : d = d') : Ending.returned (.agg #[.int .u64 a, .int .u64 b, .int .u64 c, .int .u64 d]) = .returned (.agg #[.int .u64 a', .int .u64 b', .int .u64 c', .int .u64 d']) := by rw [h0, h1, h2, h3]
set_option maxHeartbeats 400000 in
theorem union_any (f g : Nat → Bool) (w : World) :
    Calls Try.prog 21 #[.agg #[.int .u64 (setW f 0), .int .u64 (setW f 1), .int .u64 (setW f 2), .int .u64 (setW f 3)], .agg #[.int .u64 (setW g 0), .int .u64 (setW g 1), .int .u64 (setW g 2), .int .u64 (setW g 3)]] w
      fun e w' => e = .returned (.agg #[.int .u64 (setW (fun i => f i || g i) 0), .int .u64 (setW (fun i => f i || g i) 1), .int .u64 (setW (fun i => f i || g i) 2), .int .u64 (setW (fun i => f i || g i) 3)]) ∧ Below w.heap.size w w' := by
  have i0 := ix0
  have i1 := ix1
  have i2 := ix2
  have i3 := ix3
  go_enter Try.func21, Try.ntmps21
  go_wp2
  go_rounds 5
  go_returns
  exact ⟨ret_set (or_word _ _ _) (or_word _ _ _) (or_word _ _ _) (or_word _ _ _), by go_grown⟩
set_option maxHeartbeats 400000 in
theorem meet_any (f g : Nat → Bool) (w : World) :
    Calls Try.prog 22 #[.agg #[.int .u64 (setW f 0), .int .u64 (setW f 1), .int .u64 (setW f 2), .int .u64 (setW f 3)], .agg #[.int .u64 (setW g 0), .int .u64 (setW g 1), .int .u64 (setW g 2), .int .u64 (setW g 3)]] w
      fun e w' => e = .returned (.agg #[.int .u64 (setW (fun i => f i && g i) 0), .int .u64 (setW (fun i => f i && g i) 1), .int .u64 (setW (fun i => f i && g i) 2), .int .u64 (setW (fun i => f i && g i) 3)]) ∧ Below w.heap.size w w' := by
  have i0 := ix0
  have i1 := ix1
  have i2 := ix2
  have i3 := ix3
  go_enter Try.func22, Try.ntmps22
  go_wp2
  go_rounds 5
  go_returns
  exact ⟨ret_set (and_word _ _ _) (and_word _ _ _) (and_word _ _ _) (and_word _ _ _), by go_grown⟩
set_option maxHeartbeats 400000 in
theorem not_any (f : Nat → Bool) (w : World) :
    Calls Try.prog 23 #[.agg #[.int .u64 (setW f 0), .int .u64 (setW f 1), .int .u64 (setW f 2), .int .u64 (setW f 3)]] w
      fun e w' => e = .returned (.agg #[.int .u64 (setW (fun i => !f i) 0), .int .u64 (setW (fun i => !f i) 1), .int .u64 (setW (fun i => !f i) 2), .int .u64 (setW (fun i => !f i) 3)]) ∧ Below w.heap.size w w' := by
  have i0 := ix0
  have i1 := ix1
  have i2 := ix2
  have i3 := ix3
  go_enter Try.func23, Try.ntmps23
  go_wp2
  go_rounds 5
  go_returns
  exact ⟨ret_set (not_word _ _) (not_word _ _) (not_word _ _) (not_word _ _), by go_grown⟩
theorem setW_none (k : Nat) : setW (fun _ => false) k = 0 := by
  have : bitsOf (fun _ => false) 64 = 0 := by decide +kernel
  unfold setW; rw [this]; rfl
theorem full_any (w : World) :
    Calls Try.prog 20 #[] w
      fun e w' => e = .returned (.agg #[.int .u64 (setW (fun _ => true) 0), .int .u64 (setW (fun _ => true) 1), .int .u64 (setW (fun _ => true) 2), .int .u64 (setW (fun _ => true) 3)]) ∧ Below w.heap.size w w' := by
  have h := not_any (fun _ => false)
  rw [setW_none 0, setW_none 1, setW_none 2, setW_none 3] at h
  have H := Lib.hid h
  clear h
  go_enter Try.func20, Try.ntmps20
  go_wp2_with (refine (H.out _).mono ?_; rintro e w1 ⟨rfl, hb⟩; obtain ⟨hc, hf⟩ := bcell hb; obtain ⟨c0, c1, c2, c3⟩ := cells4 hb (by simp))
  refine bodyPost_ret (v := .agg #[.int .u64 (setW (fun _ => true) 0), .int .u64 (setW (fun _ => true) 1), .int .u64 (setW (fun _ => true) 2), .int .u64 (setW (fun _ => true) 3)]) (by simp [results, Try.results20, go_sem, c0, c1, c2, c3]) rfl ⟨rfl, ?_⟩
  exact ((((((Below.refl _ w).alloc (Nat.le_refl _) _).trans (hb.mono (by simp))).setCell (Nat.le_refl _) _).setCell (Nat.le_refl _) _).setCell (Nat.le_refl _) _).setCell (Nat.le_refl _) _
set_option maxHeartbeats 400000 in
theorem ones_any (x : Int) (w : World) (h0 : 0 ≤ x) (h1 : x ≤ 18446744073709551615) :
    Calls Try.prog 25 #[.int .u64 x] w fun e w' => e = .returned (.int .i64 (cnt (fun k => x.toNat.testBit k) 64 : Nat)) ∧ w = w' := by
  obtain ⟨n, rfl⟩ := Int.eq_ofNat_of_zero_le h0
  have ho := ocE_nat n (by omega)
  have e : bits BinOp.and IntKind.i64 (wrap64 (ocE (n : Int))) 127 = (cnt (fun k => n.testBit k) 64 : Nat) := by
    rw [IntWalk.wrap64_in (ocE (n : Int)) ⟨by omega, by omega⟩, Go.i64_and127]
    exact ho.2.2
  have E := Lib.hid e
  clear e ho
  go_enter Try.func25, Try.ntmps25
  go_wp2
  go_ret
  exact ⟨ret_int E.out, rfl⟩
theorem ones_word (f : Nat → Bool) (k : Nat) (w : World) :
    Calls Try.prog 25 #[.int .u64 (setW f k)] w fun e w' => e = .returned (.int .i64 (cnt (fun j => f (64 * k + j)) 64 : Nat)) ∧ w = w' := by
  have h := ones_any (setW f k) w (setW_lo f k) (setW_hi f k)
  rw [cnt_congr (g := fun j => f (64 * k + j)) fun j hj => setW_bit f k j hj] at h
  exact h
theorem cnt_four (f : Nat → Bool) : cnt f 256 = cnt (fun j => f (64 * 0 + j)) 64 + cnt (fun j => f (64 * 1 + j)) 64 + cnt (fun j => f (64 * 2 + j)) 64 + cnt (fun j => f (64 * 3 + j)) 64 := by
  have h1 : cnt f 256 = cnt f 64 + cnt (fun i => f (64 + i)) 192 := cnt_add f 64 192
  have h2 : cnt (fun i => f (64 + i)) 192 = cnt (fun i => f (64 + i)) 64 + cnt (fun i => f (64 + (64 + i))) 128 := cnt_add (fun i => f (64 + i)) 64 128
  have h3 : cnt (fun i => f (64 + (64 + i))) 128 = cnt (fun i => f (64 + (64 + i))) 64 + cnt (fun i => f (64 + (64 + (64 + i)))) 64 := cnt_add (fun i => f (64 + (64 + i))) 64 64
  have e0 : cnt (fun j => f (64 * 0 + j)) 64 = cnt f 64 := cnt_congr fun i _ => congrArg f (by omega)
  have e1 : cnt (fun j => f (64 * 1 + j)) 64 = cnt (fun i => f (64 + i)) 64 := cnt_congr fun i _ => congrArg f (by omega)
  have e2 : cnt (fun j => f (64 * 2 + j)) 64 = cnt (fun i => f (64 + (64 + i))) 64 := cnt_congr fun i _ => congrArg f (by omega)
  have e3 : cnt (fun j => f (64 * 3 + j)) 64 = cnt (fun i => f (64 + (64 + (64 + i)))) 64 := cnt_congr fun i _ => congrArg f (by omega)
  omega
set_option maxHeartbeats 800000 in
theorem count_any (f : Nat → Bool) (w : World) :
    Calls Try.prog 13 #[.agg #[.int .u64 (setW f 0), .int .u64 (setW f 1), .int .u64 (setW f 2), .int .u64 (setW f 3)]] w fun e w' => e = .returned (.int .i64 (cnt f 256 : Nat)) ∧ Below w.heap.size w w' := by
  have i0 := ix0
  have i1 := ix1
  have i2 := ix2
  have i3 := ix3
  have hs := Lib.hid (cnt_four f)
  have b0 := cnt_le (fun j => f (64 * 0 + j)) 64
  have b1 := cnt_le (fun j => f (64 * 1 + j)) 64
  have b2 := cnt_le (fun j => f (64 * 2 + j)) 64
  have b3 := cnt_le (fun j => f (64 * 3 + j)) 64
  obtain ⟨n0, g0⟩ : ∃ n, n = cnt (fun j => f (64 * 0 + j)) 64 := ⟨_, rfl⟩
  obtain ⟨n1, g1⟩ : ∃ n, n = cnt (fun j => f (64 * 1 + j)) 64 := ⟨_, rfl⟩
  obtain ⟨n2, g2⟩ : ∃ n, n = cnt (fun j => f (64 * 2 + j)) 64 := ⟨_, rfl⟩
  obtain ⟨n3, g3⟩ : ∃ n, n = cnt (fun j => f (64 * 3 + j)) 64 := ⟨_, rfl⟩
  have h0 := Lib.hid (ones_word f 0)
  have h1 := Lib.hid (ones_word f 1)
  have h2 := Lib.hid (ones_word f 2)
  have h3 := Lib.hid (ones_word f 3)
  rw [← g0] at b0 h0 hs
  rw [← g1] at b1 h1 hs
  rw [← g2] at b2 h2 hs
  rw [← g3] at b3 h3 hs
  clear g0 g1 g2 g3
  go_enter Try.func13, Try.ntmps13
  go_wp2
  refine wp_loop_rounds 5 ?_
  rw [rounds_succ]; go_wp2_with (refine (h0.out _).mono ?_; rintro e w1 ⟨rfl, rfl⟩)
  rw [rounds_succ]; go_wp2_with (refine (h1.out _).mono ?_; rintro e w1 ⟨rfl, rfl⟩)
  rw [rounds_succ]; go_wp2_with (refine (h2.out _).mono ?_; rintro e w1 ⟨rfl, rfl⟩)
  rw [rounds_succ]; go_wp2_with (refine (h3.out _).mono ?_; rintro e w1 ⟨rfl, rfl⟩)
  rw [rounds_succ]; go_wp2
  go_ret
  exact ⟨ret_int (by rw [hs.out]; omega), by go_grown⟩
end Go.Proofs.Ytcfjclcbfhajcaa
