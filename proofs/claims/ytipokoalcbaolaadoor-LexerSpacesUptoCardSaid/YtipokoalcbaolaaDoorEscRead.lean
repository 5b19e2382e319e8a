/- The contract of the program's Read: the byte of the character at an index, the index after it, and whether there is one. -/
import Derived.Test.YtipokoalcbaolaaDoorEscWalks
namespace Go.Proofs.YtipokoalcbaolaaDoor
open Go.RowKit
/-- What Read returns. -/
def readV (l : List Nat) (p : Int) : Value :=
  match rd l p with
  | none => .tuple #[.int .u8 0, .int .i64 0, .bool false]
  | some (c, n) => .tuple #[.int .u8 (c : Int), .int .i64 (p + (n : Int)), .bool true]
def ReadIs (l : List Nat) (p : Int) (w : World) (e : Ending) (w' : World) : Prop := e = .returned (readV l p) ∧ w' = w
theorem ReadIs.no {l : List Nat} {p : Int} {w : World} (h : rd l p = none) : ReadIs l p w (.returned (.tuple #[.int .u8 0, .int .i64 0, .bool false])) w := by
  unfold ReadIs readV; rw [h]; exact ⟨rfl, rfl⟩
theorem ReadIs.yes {l : List Nat} {p : Int} {w : World} {c n : Nat} {x y : Int} (h : rd l p = some (c, n)) (hx : x = c) (hy : y = p + n) : ReadIs l p w (.returned (.tuple #[.int .u8 x, .int .i64 y, .bool true])) w := by
  unfold ReadIs readV; rw [h, hx, hy]; exact ⟨rfl, rfl⟩
theorem bts_ext_end (s : ByteArray) (i : Nat) : bts (s.extract i s.size) = (bts s).drop i := by
  rw [bts_extract, List.take_of_length_le (by rw [List.length_drop, bts_length]; exact Nat.le_refl _)]
theorem escaped_ext (s : ByteArray) (i : Nat) (w : World) (hs : s.size ≤ 9223372036854775807) :
    Calls Tryd.prog 61 #[.string (s.extract i s.size)] w fun e w' => e = .returned (.tuple #[.int .u8 ((esc ((bts s).drop i)).1 : Int), .int .i64 ((esc ((bts s).drop i)).2 : Int)]) ∧ w' = w := by
  have h := escaped_any (s.extract i s.size) w (by rw [ByteArray.size_extract]; omega)
  unfold EscIs at h
  rw [bts_ext_end] at h
  exact h
set_option maxHeartbeats 1000000 in
theorem read_any (s : ByteArray) (p : Int) (w : World) (hs : s.size ≤ 2000000) :
    Calls Tryd.prog 49 #[.string s, .int .i64 p] w (ReadIs (bts s) p w) := by
  by_cases hn : p < 0
  · have hr := Lib.hid (rd_neg (bts s) p hn)
    go_enter Tryd.func49, Tryd.ntmps49
    go_wp2
    exact bodyPost_ret (v := .tuple #[.int .u8 0, .int .i64 0, .bool false]) (by simp [results, Tryd.results49, go_sem]) rfl (ReadIs.no hr.out)
  · obtain ⟨k, rfl⟩ : ∃ k : Nat, p = k := ⟨p.toNat, by omega⟩
    by_cases hk : k < s.size
    · have hd := bts_drop s k hk
      by_cases h92 : s[k].toNat = 92
      · have hr : rd (bts s) (k : Int) = if (esc ((bts s).drop (k + 1))).2 = 0 then none else some ((esc ((bts s).drop (k + 1))).1, 1 + (esc ((bts s).drop (k + 1))).2) := by
          rw [rd_nat, hd, h92, rdl_esc]
        have hl := esc_len ((bts s).drop (k + 1))
        rw [List.length_drop, bts_length] at hl
        have hE := fun w => escaped_ext s (k + 1) w (by omega)
        generalize he : esc ((bts s).drop (k + 1)) = x at hr hl hE
        obtain ⟨c, n⟩ := x
        clear he hd
        have HE := Lib.hid hE
        clear hE
        by_cases h0 : n = 0
        · subst h0
          rw [if_pos rfl] at hr
          have HR := Lib.hid hr
          clear hr
          go_enter Tryd.func49, Tryd.ntmps49
          go_wp2_with (go_at_call 61; refine (HE.out _).mono ?_; rintro e w' ⟨rfl, hw⟩; obtain rfl := hw.symm; clear hw)
          exact bodyPost_ret (v := .tuple #[.int .u8 0, .int .i64 0, .bool false]) (by simp [results, Tryd.results49, go_sem]) rfl (ReadIs.no HR.out)
        · rw [if_neg h0] at hr
          have HR := Lib.hid hr
          clear hr
          have h0' : ((n : Int) == 0) = false := by rw [beq_eq_false_iff_ne]; omega
          go_enter Tryd.func49, Tryd.ntmps49
          go_wp2_with (go_at_call 61; refine (HE.out _).mono ?_; rintro e w' ⟨rfl, hw⟩; obtain rfl := hw.symm; clear hw)
          exact bodyPost_ret (v := .tuple #[.int .u8 (c : Int), .int .i64 ((k : Int) + 1 + (n : Int)), .bool true]) (by simp [results, Tryd.results49, go_sem]) rfl (ReadIs.yes HR.out rfl (by omega))
      · have hr := Lib.hid (show rd (bts s) (k : Int) = some (s[k].toNat, 1) by rw [rd_nat, hd, rdl_plain _ _ h92])
        have hb := beq_no (d := s[k].toNat) (k := 92) (by omega)
        clear hd
        go_enter Tryd.func49, Tryd.ntmps49
        go_wp2
        exact bodyPost_ret (v := .tuple #[.int .u8 (s[k].toNat : Int), .int .i64 ((k : Int) + 1), .bool true]) (by simp [results, Tryd.results49, go_sem]) rfl (ReadIs.yes hr.out rfl (by omega))
    · have hr := Lib.hid (rd_high (bts s) k (by rw [bts_length]; omega))
      go_enter Tryd.func49, Tryd.ntmps49
      go_wp2
      exact bodyPost_ret (v := .tuple #[.int .u8 0, .int .i64 0, .bool false]) (by simp [results, Tryd.results49, go_sem]) rfl (ReadIs.no hr.out)
theorem eread_no (s : ByteArray) (p : Int) (w : World) (hs : s.size ≤ 2000000) (h : rd (bts s) p = none) :
    Calls Tryd.prog 49 #[.string s, .int .i64 p] w fun e w' => e = .returned (.tuple #[.int .u8 0, .int .i64 0, .bool false]) ∧ w' = w := by
  have := read_any s p w hs
  unfold ReadIs readV at this
  rw [h] at this
  exact this
theorem eread_yes (s : ByteArray) (p : Int) (c n : Nat) (w : World) (hs : s.size ≤ 2000000) (h : rd (bts s) p = some (c, n)) :
    Calls Tryd.prog 49 #[.string s, .int .i64 p] w fun e w' => e = .returned (.tuple #[.int .u8 (c : Int), .int .i64 (p + (n : Int)), .bool true]) ∧ w' = w := by
  have := read_any s p w hs
  unfold ReadIs readV at this
  rw [h] at this
  exact this
end Go.Proofs.YtipokoalcbaolaaDoor
