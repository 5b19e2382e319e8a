/- The walk of the law EscapeInverse, given that the fixed examples are as documented. -/
import Derived.Test.YtlcaclemogamdaaEscReads
namespace Go.Proofs.Ytlcaclemogamdaa
open Go.RowKit
theorem numF_three (a b d : Nat) (ha : a ≤ 2) (hb : b ≤ 7) (hd : d ≤ 7) : numF 0 0 [48 + a, 48 + b, 48 + d] = (64 * a + 8 * b + d, 3) := by
  rw [numF_yes _ _ ((oct_iff _).2 (by omega)), numF_yes _ _ ((oct_iff _).2 (by omega)), numF_yes _ _ ((oct_iff _).2 (by omega))]
  show (((0 * 8 + (48 + a) - 48) * 8 + (48 + b) - 48) * 8 + (48 + d) - 48, 0 + 1 + 1 + 1) = _
  congr 1; omega
/-- Reading inverts the form, whatever follows. -/
theorem rdl_form (c : Nat) (cl : Bool) (hc : c < 256) (r : List Nat) : rdl (formL c cl ++ r) = some (c, (formL c cl).length) := by
  by_cases h1 : c = 10
  · subst h1; rfl
  by_cases h2 : c = 13
  · subst h2; rfl
  by_cases h3 : c = 9
  · subst h3; rfl
  by_cases h4 : c = 92 ∨ (cl = true ∧ (c = 91 ∨ c = 93)) ∨ (cl = false ∧ c = 39)
  · have e : formL c cl = [92, c] := by unfold formL; rw [if_neg h1, if_neg h2, if_neg h3, if_pos h4]
    have hx : c = 39 ∨ c = 34 ∨ c = 91 ∨ c = 93 ∨ c = 92 := by omega
    rw [e]
    show rdl (92 :: c :: r) = some (c, 2)
    rw [rdl_esc, esc_cons, if_neg (show ¬ c = 110 by omega), if_neg (show ¬ c = 114 by omega), if_neg (show ¬ c = 116 by omega), if_pos hx]
    rfl
  by_cases h5 : c < 32 ∨ (127 ≤ c ∧ c ≤ 191) ∨ (cl = true ∧ c = 45)
  · have e : formL c cl = [92, 48 + c / 64, 48 + c / 8 % 8, 48 + c % 8] := by unfold formL; rw [if_neg h1, if_neg h2, if_neg h3, if_neg h4, if_pos h5]
    rw [e]
    show rdl (92 :: (48 + c / 64) :: (48 + c / 8 % 8) :: (48 + c % 8) :: r) = some (c, 4)
    have he : esc ((48 + c / 64) :: (48 + c / 8 % 8) :: (48 + c % 8) :: r) = (c, 3) := by
      rw [esc_cons, if_neg (by omega), if_neg (by omega), if_neg (by omega), if_neg (by omega), if_pos (by omega)]
      show numF 0 0 [48 + c / 64, 48 + c / 8 % 8, 48 + c % 8] = (c, 3)
      rw [numF_three _ _ _ (by omega) (by omega) (by omega)]
      congr 1; omega
    rw [rdl_esc, he]
    rfl
  · have e : formL c cl = [c] := by unfold formL; rw [if_neg h1, if_neg h2, if_neg h3, if_neg h4, if_neg h5]
    rw [e]
    exact rdl_plain c r (by omega)
set_option maxHeartbeats 2000000 in
theorem inverse_any (hA : AwakeAt) (c : Int) (cl : Bool) (rest : ByteArray) (w : World) (h0 : 0 ≤ c) (h1 : c < 256) (hs : rest.size ≤ 9223372036854775807) :
    Calls Try.prog 4 #[.int .u8 c, .bool cl, .string rest] w fun e w' => e = .returned (.bool true) ∧ Below w.heap.size w w' := by
  unfold AwakeAt at hA
  have HA := Lib.hid hA
  clear hA
  have hB : Below w.heap.size w w := Below.refl _ _
  by_cases hz : (rest.size : Int) ≤ 100
  · obtain ⟨s, hs⟩ : ∃ s, s = strOf (formL c.toNat cl) := ⟨_, rfl⟩
    obtain ⟨⟨z1, z4⟩, -⟩ := plain_facts c.toNat cl (by omega) s hs
    have hbt : bts (s ++ rest) = formL c.toNat cl ++ bts rest := by rw [bts_append, hs, bts_form c.toNat cl (by omega)]
    have hsz : s.size = (formL c.toNat cl).length := by rw [hs]; exact strOf_size _
    have hz2 : (s ++ rest).size ≤ 1000000 := by rw [ByteArray.size_append]; omega
    have hr : rd (bts (s ++ rest)) 0 = some (c.toNat, s.size) := by
      show rd (bts (s ++ rest)) ((0 : Nat) : Int) = _
      rw [rd_nat, hbt, List.drop_zero, rdl_form c.toNat cl (by omega), hsz]
    have k1 : ∀ w, (Op.stringOp .add s rest).run Try.prog w = .ok (.string (s ++ rest)) w := fun w => run_string_add_sum w _ _ (by omega)
    have hread : ∀ w, Calls Try.prog 9 #[.string (s ++ rest), .int .i64 0] w fun e w' => e = .returned (.tuple #[.int .u8 c, .int .i64 (s.size : Int), .bool true]) ∧ w' = w := fun w => by
      have := eread_yes (s ++ rest) 0 _ _ w hz2 hr
      rw [Int.toNat_of_nonneg h0, Int.zero_add] at this
      exact this
    have HR := Lib.hid hread
    have HS := Lib.hid hs
    clear hr hread hs hbt hsz
    go_enter Try.func4, Try.ntmps4
    go_wp2_with (first
      | (go_at_call 8; (with_reducible refine (HA.out _).mono ?_); rintro e w1 ⟨rfl, hb⟩; replace hB := hB.trans (hb.mono hB.size); clear hb)
      | (go_at_call 11; (with_reducible refine (eform c cl s _ h0 h1 HS.out).mono ?_); rintro e w2 ⟨rfl, hb⟩; replace hB := hB.trans (hb.mono hB.size); clear hb)
      | (go_at_call 12; (with_reducible refine (rform c cl s _ h0 h1 HS.out).mono ?_); rintro e w2 ⟨rfl, hb⟩; replace hB := hB.trans (hb.mono hB.size); clear hb)
      | (go_at_call 9; (with_reducible refine (HR.out _).mono ?_); rintro e w' ⟨rfl, hw⟩; obtain rfl := hw.symm; clear hw))
    go_ret
    exact ⟨rfl, hB⟩
  · go_enter Try.func4, Try.ntmps4
    go_wp2_with (first
      | (go_at_call 8; (with_reducible refine (HA.out _).mono ?_); rintro e w1 ⟨rfl, hb⟩; replace hB := hB.trans (hb.mono hB.size); clear hb))
    go_ret
    exact ⟨rfl, hB⟩
end Go.Proofs.Ytlcaclemogamdaa
