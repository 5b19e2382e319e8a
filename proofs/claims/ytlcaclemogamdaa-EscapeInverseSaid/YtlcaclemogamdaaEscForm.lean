/- The contracts of Form and of the reference's Form: the form of every byte. -/
import Derived.Test.YtlcaclemogamdaaEscRRead
import Derived.Below
import Derived.Lib.BufferRead
namespace Go.Proofs.Ytlcaclemogamdaa
open Go.RowKit
/-- The form of a byte, in a class or in a literal. -/
def formL (c : Nat) (cl : Bool) : List Nat :=
  if c = 10 then [92, 110] else if c = 13 then [92, 114] else if c = 9 then [92, 116]
  else if c = 92 ∨ (cl = true ∧ (c = 91 ∨ c = 93)) ∨ (cl = false ∧ c = 39) then [92, c]
  else if c < 32 ∨ (127 ≤ c ∧ c ≤ 191) ∨ (cl = true ∧ c = 45) then [92, 48 + c / 64, 48 + c / 8 % 8, 48 + c % 8]
  else [c]
def FormIs (c : Nat) (cl : Bool) (w : World) (e : Ending) (w' : World) : Prop := e = .returned (.string (strOf (formL c cl))) ∧ Below w.heap.size w w'
theorem FormIs.mk {c : Nat} {cl : Bool} {w w' : World} {s : ByteArray} {l : List Nat} (h : formL c cl = l) (hs : s = strOf l) (hb : Below w.heap.size w w') : FormIs c cl w (.returned (.string s)) w' := by
  unfold FormIs; rw [h, hs]; exact ⟨rfl, hb⟩
theorem conv2 (w : World) (x y : Int) (hx : 0 ≤ x ∧ x < 256) (hy : 0 ≤ y ∧ y < 256) :
    (convert 30 9 (.slice (some ⟨w.heap.size, 0, none⟩) 2 2)).run Try.prog (w.alloc (.cells #[.int .u8 x, .int .u8 y] 5)) = .ok (.string (strOf [x.toNat, y.toNat])) (w.alloc (.cells #[.int .u8 x, .int .u8 y] 5)) := by
  refine run_convert_bytes_back _ _ _ 5 ⟨w.heap.size, 0, none⟩ 2 [UInt8.ofNat x.toNat, UInt8.ofNat y.toNat] Try.underlying30 Try.underlying5 Try.underlying9 (fun j hj => ?_)
  match j, hj with
  | 0, _ => simp [Addr.add]; omega
  | 1, _ => simp [Addr.add]; omega
theorem conv4 (w : World) (x y z u : Int) (hx : 0 ≤ x ∧ x < 256) (hy : 0 ≤ y ∧ y < 256) (hz : 0 ≤ z ∧ z < 256) (hu : 0 ≤ u ∧ u < 256) :
    (convert 30 9 (.slice (some ⟨w.heap.size, 0, none⟩) 4 4)).run Try.prog (w.alloc (.cells #[.int .u8 x, .int .u8 y, .int .u8 z, .int .u8 u] 5)) = .ok (.string (strOf [x.toNat, y.toNat, z.toNat, u.toNat])) (w.alloc (.cells #[.int .u8 x, .int .u8 y, .int .u8 z, .int .u8 u] 5)) := by
  refine run_convert_bytes_back _ _ _ 5 ⟨w.heap.size, 0, none⟩ 4 [UInt8.ofNat x.toNat, UInt8.ofNat y.toNat, UInt8.ofNat z.toNat, UInt8.ofNat u.toNat] Try.underlying30 Try.underlying5 Try.underlying9 (fun j hj => ?_)
  match j, hj with
  | 0, _ => simp [Addr.add]; omega
  | 1, _ => simp [Addr.add]; omega
  | 2, _ => simp [Addr.add]; omega
  | 3, _ => simp [Addr.add]; omega
theorem conv1 (w : World) (x : Int) (hx : 0 ≤ x ∧ x < 256) :
    (convert 30 9 (.slice (some ⟨w.heap.size, 0, none⟩) 1 1)).run Try.prog (w.alloc (.cells #[.int .u8 x] 5)) = .ok (.string (strOf [x.toNat])) (w.alloc (.cells #[.int .u8 x] 5)) := by
  refine run_convert_bytes_back _ _ _ 5 ⟨w.heap.size, 0, none⟩ 1 [UInt8.ofNat x.toNat] Try.underlying30 Try.underlying5 Try.underlying9 (fun j hj => ?_)
  match j, hj with
  | 0, _ => simp [Addr.add]; omega
theorem ibeq_no {c k : Int} (h : c ≠ k) : (c == k) = false := by rw [beq_eq_false_iff_ne]; exact h
theorem form_octal (c : Nat) (cl : Bool) (h1 : c ≠ 10 ∧ c ≠ 13 ∧ c ≠ 9) (_h2 : c ≠ 92 ∧ c ≠ 91 ∧ c ≠ 93) (_h3 : c ≠ 39) (h4 : c < 32 ∨ (127 ≤ c ∧ c ≤ 191)) :
    formL c cl = [92, 48 + c / 64, 48 + c / 8 % 8, 48 + c % 8] := by
  unfold formL
  rw [if_neg h1.1, if_neg h1.2.1, if_neg h1.2.2, if_neg (by omega), if_pos (by omega)]
theorem form_self (c : Nat) (cl : Bool) (h1 : c ≠ 10 ∧ c ≠ 13 ∧ c ≠ 9) (h2 : c ≠ 92 ∧ c ≠ 91 ∧ c ≠ 93 ∧ c ≠ 39 ∧ c ≠ 45) (h4 : ¬ (c < 32 ∨ (127 ≤ c ∧ c ≤ 191))) :
    formL c cl = [c] := by
  unfold formL
  rw [if_neg h1.1, if_neg h1.2.1, if_neg h1.2.2, if_neg (by omega), if_neg (by omega)]
set_option maxHeartbeats 2000000 in
theorem form_any (c : Int) (cl : Bool) (w : World) (h0 : 0 ≤ c) (h1 : c < 256) :
    Calls Try.prog 11 #[.int .u8 c, .bool cl] w (FormIs c.toNat cl w) := by
  have k1 := conv1 w c ⟨h0, h1⟩
  have k2 := conv2 w 92 c (by omega) ⟨h0, h1⟩
  by_cases hs : c = 10 ∨ c = 13 ∨ c = 9 ∨ c = 92 ∨ c = 91 ∨ c = 93 ∨ c = 39 ∨ c = 45
  · have k4 := conv4 w 92 48 53 53 (by omega) (by omega) (by omega) (by omega)
    rcases hs with rfl | rfl | rfl | rfl | rfl | rfl | rfl | rfl <;> cases cl
    all_goals
      go_enter Try.func11, Try.ntmps11
      go_wp2
      go_ret
      first
        | exact FormIs.mk rfl rfl (Below.refl _ _)
        | exact FormIs.mk rfl rfl ((Below.refl _ _).alloc (Nat.le_refl _) _)
  · obtain ⟨a1, a2, a3, a4, a5, a6, a7, a8⟩ : c ≠ 10 ∧ c ≠ 13 ∧ c ≠ 9 ∧ c ≠ 92 ∧ c ≠ 91 ∧ c ≠ 93 ∧ c ≠ 39 ∧ c ≠ 45 := by omega
    have b1 := ibeq_no a1
    have b2 := ibeq_no a2
    have b3 := ibeq_no a3
    have b4 := ibeq_no a4
    have b5 := ibeq_no a5
    have b6 := ibeq_no a6
    have b7 := ibeq_no a7
    have b8 := ibeq_no a8
    have k4 := conv4 w 92 (48 + c / 64) (48 + c / 8 % 8) (48 + c % 8) (by omega) (by omega) (by omega) (by omega)
    by_cases h32 : c < 32 ∨ (127 ≤ c ∧ c ≤ 191)
    · have hf := Lib.hid (form_octal c.toNat cl (by omega) (by omega) (by omega) (by omega))
      have he : strOf [(92 : Int).toNat, (48 + c / 64).toNat, (48 + c / 8 % 8).toNat, (48 + c % 8).toNat] = strOf [92, 48 + c.toNat / 64, 48 + c.toNat / 8 % 8, 48 + c.toNat % 8] := by
        congr 1; simp; omega
      have HE := Lib.hid he
      clear hs a1 a2 a3 a4 a5 a6 a7 a8 he
      rcases h32 with h | ⟨h, h'⟩ <;> cases cl
      all_goals
        go_enter Try.func11, Try.ntmps11
        go_wp2
        go_ret
        exact FormIs.mk hf.out HE.out ((Below.refl _ _).alloc (Nat.le_refl _) _)
    · have hf := Lib.hid (form_self c.toNat cl (by omega) (by omega) (by omega))
      have g1 : ¬ c < 32 := by omega
      clear hs a1 a2 a3 a4 a5 a6 a7 a8
      by_cases g2 : 127 ≤ c
      · have g3 : ¬ c ≤ 191 := by omega
        cases cl
        all_goals
          go_enter Try.func11, Try.ntmps11
          go_wp2
          go_ret
          exact FormIs.mk hf.out rfl ((Below.refl _ _).alloc (Nat.le_refl _) _)
      · cases cl
        all_goals
          go_enter Try.func11, Try.ntmps11
          go_wp2
          go_ret
          exact FormIs.mk hf.out rfl ((Below.refl _ _).alloc (Nat.le_refl _) _)
set_option maxHeartbeats 2000000 in
theorem rform_any (c : Int) (cl : Bool) (w : World) (h0 : 0 ≤ c) (h1 : c < 256) :
    Calls Try.prog 12 #[.int .u8 c, .bool cl] w (FormIs c.toNat cl w) := by
  have k1 := conv1 w c ⟨h0, h1⟩
  have k2 := conv2 w 92 c (by omega) ⟨h0, h1⟩
  by_cases hs : c = 10 ∨ c = 13 ∨ c = 9 ∨ c = 92 ∨ c = 91 ∨ c = 93 ∨ c = 39 ∨ c = 45
  · have k4 := conv4 w 92 48 53 53 (by omega) (by omega) (by omega) (by omega)
    rcases hs with rfl | rfl | rfl | rfl | rfl | rfl | rfl | rfl <;> cases cl
    all_goals
      go_enter Try.func12, Try.ntmps12
      go_wp2
      go_ret
      first
        | exact FormIs.mk rfl rfl (Below.refl _ _)
        | exact FormIs.mk rfl rfl ((Below.refl _ _).alloc (Nat.le_refl _) _)
  · obtain ⟨a1, a2, a3, a4, a5, a6, a7, a8⟩ : c ≠ 10 ∧ c ≠ 13 ∧ c ≠ 9 ∧ c ≠ 92 ∧ c ≠ 91 ∧ c ≠ 93 ∧ c ≠ 39 ∧ c ≠ 45 := by omega
    have b1 := ibeq_no a1
    have b2 := ibeq_no a2
    have b3 := ibeq_no a3
    have b4 := ibeq_no a4
    have b5 := ibeq_no a5
    have b6 := ibeq_no a6
    have b7 := ibeq_no a7
    have b8 := ibeq_no a8
    have k4 := conv4 w 92 (48 + c / 64) (48 + c / 8 % 8) (48 + c % 8) (by omega) (by omega) (by omega) (by omega)
    by_cases h32 : c < 32 ∨ (127 ≤ c ∧ c ≤ 191)
    · have hf := Lib.hid (form_octal c.toNat cl (by omega) (by omega) (by omega) (by omega))
      have he : strOf [(92 : Int).toNat, (48 + c / 64).toNat, (48 + c / 8 % 8).toNat, (48 + c % 8).toNat] = strOf [92, 48 + c.toNat / 64, 48 + c.toNat / 8 % 8, 48 + c.toNat % 8] := by
        congr 1; simp; omega
      have HE := Lib.hid he
      clear hs a1 a2 a3 a4 a5 a6 a7 a8 he
      rcases h32 with h | ⟨h, h'⟩ <;> cases cl
      all_goals
        go_enter Try.func12, Try.ntmps12
        go_wp2
        go_ret
        exact FormIs.mk hf.out HE.out ((Below.refl _ _).alloc (Nat.le_refl _) _)
    · have hf := Lib.hid (form_self c.toNat cl (by omega) (by omega) (by omega))
      have g1 : ¬ c < 32 := by omega
      clear hs a1 a2 a3 a4 a5 a6 a7 a8
      by_cases g2 : 127 ≤ c
      · have g3 : ¬ c ≤ 191 := by omega
        cases cl
        all_goals
          go_enter Try.func12, Try.ntmps12
          go_wp2
          go_ret
          exact FormIs.mk hf.out rfl ((Below.refl _ _).alloc (Nat.le_refl _) _)
      · cases cl
        all_goals
          go_enter Try.func12, Try.ntmps12
          go_wp2
          go_ret
          exact FormIs.mk hf.out rfl ((Below.refl _ _).alloc (Nat.le_refl _) _)
end Go.Proofs.Ytlcaclemogamdaa
