/- The contract of the reference's Read. -/
import Derived.Test.YtipokoalcbaolaaDoorEscThree
namespace Go.Proofs.YtipokoalcbaolaaDoor
open Go.RowKit
set_option maxHeartbeats 2000000 in
theorem rread_any (s : ByteArray) (p : Int) (w : World) (hs : s.size ≤ 2000000) :
    Calls Tryd.prog 26 #[.string s, .int .i64 p] w (RReadIs (bts s) p w) := by
  by_cases hn : p < 0
  · have hr := Lib.hid (rd_neg (bts s) p hn)
    go_enter Tryd.func26, Tryd.ntmps26
    go_wp2
    go_ret2
    exact RReadIs.no hr.out (drew0 _)
  · obtain ⟨k, rfl⟩ : ∃ k : Nat, p = k := ⟨p.toNat, by omega⟩
    by_cases hk : k < s.size
    · have hd := bts_drop s k hk
      by_cases h92 : s[k].toNat = 92
      · rw [h92] at hd
        by_cases hk1 : k + 1 < s.size
        · have hd1 := bts_drop s (k + 1) hk1
          have hr : rd (bts s) (k : Int) = if (esc ((bts s).drop (k + 1))).2 = 0 then none else some ((esc ((bts s).drop (k + 1))).1, 1 + (esc ((bts s).drop (k + 1))).2) := by
            rw [rd_nat, hd, rdl_esc]
          have HR := Lib.hid hr
          have HD1 := Lib.hid hd1
          clear hr hd1 hd
          have hlen : ((bts s).drop (k + 1)).length = s.size - (k + 1) := by rw [List.length_drop, bts_length]
          have h256 : s[k + 1].toNat < 256 := s[k + 1].toNat_lt
          by_cases hx : s[k + 1].toNat = 110 ∨ s[k + 1].toNat = 114 ∨ s[k + 1].toNat = 116
          · rcases hx with h | h | h
            all_goals
              have hy : ∃ e, rd (bts s) (k : Int) = some (e, 2) ∧ (e = if s[k + 1].toNat = 110 then 10 else if s[k + 1].toNat = 114 then 13 else 9) := by
                rw [HR.out, HD1.out, h, esc_cons]; exact ⟨_, rfl, rfl⟩
              obtain ⟨e, hy, he⟩ := hy
              rw [h] at he
              have HY := Lib.hid hy
              have HE := Lib.hid he
              clear hy he
              go_enter Tryd.func26, Tryd.ntmps26
              go_wp2
              go_ret2
              exact RReadIs.yes HY.out (drew0 _) (by rw [HE.out]; rfl) rfl
          · by_cases h5 : s[k + 1].toNat = 39 ∨ s[k + 1].toNat = 34 ∨ s[k + 1].toNat = 91 ∨ s[k + 1].toNat = 93 ∨ s[k + 1].toNat = 92
            · rcases h5 with h | h | h | h | h
              all_goals
                have hy : rd (bts s) (k : Int) = some (s[k + 1].toNat, 2) := by
                  rw [HR.out, HD1.out, h, esc_cons]; rfl
                rw [h] at hy
                have HY := Lib.hid hy
                clear hy
                go_enter Tryd.func26, Tryd.ntmps26
                go_wp2_with (go_at_call 36; refine (in_true _ _ _ (by decide) (by decide)).mono ?_; rintro e w' ⟨rfl, hw⟩; obtain rfl := hw.symm; clear hw)
                go_ret2
                exact RReadIs.yes HY.out (drew0 _) rfl rfl
            · have he := esc_dg s[k + 1].toNat ((bts s).drop (k + 1 + 1)) (by omega) (by omega) (by omega) h5
              rw [← HD1.out] at he
              have b1 := beq_no (d := s[k + 1].toNat) (k := 110) (by omega)
              have b2 := beq_no (d := s[k + 1].toNat) (k := 114) (by omega)
              have b3 := beq_no (d := s[k + 1].toNat) (k := 116) (by omega)
              have hin := Lib.hid (five_not _ h5)
              clear hx h5
              cases d3 : dg ((bts s).drop (k + 1)) 3 50
              · cases d2 : dg ((bts s).drop (k + 1)) 2 55
                · cases d1 : dg ((bts s).drop (k + 1)) 1 55
                  · have hy : rd (bts s) (k : Int) = none := by
                      rw [HR.out, he, d3, d2, d1]; rfl
                    have HY := Lib.hid hy
                    have D3 := Lib.hid d3
                    have D2 := Lib.hid d2
                    have D1 := Lib.hid d1
                    clear hy he d3 d2 d1
                    go_enter Tryd.func26, Tryd.ntmps26
                    go_wp2_with (first
                      | (go_at_call 36; (with_reducible refine (in_false _ _ hin.out).mono ?_); rintro e w' ⟨rfl, hw⟩; obtain rfl := hw.symm; clear hw)
                      | (go_at_call 37; (with_reducible refine (digits3 s k false _ hs hk1 D3.out).mono ?_); rintro e w' ⟨rfl, hw⟩; obtain rfl := hw.symm; clear hw)
                      | (go_at_call 37; (with_reducible refine (digits2 s k false _ hs hk1 D2.out).mono ?_); rintro e w' ⟨rfl, hw⟩; obtain rfl := hw.symm; clear hw)
                      | (go_at_call 37; (with_reducible refine (digits1 s k false _ hs hk1 D1.out).mono ?_); rintro e w' ⟨rfl, hw⟩; obtain rfl := hw.symm; clear hw))
                    go_ret2
                    exact RReadIs.no HY.out (drew0 _)
                  · obtain ⟨z, -, r⟩ := dg_at (by omega) d1
                    have r0 : 48 ≤ s[k + 1].toNat ∧ s[k + 1].toNat ≤ 55 := r 0 (by omega) hk1
                    clear r
                    have hy : rd (bts s) (k : Int) = some (s[k + 1].toNat - 48, 2) := by
                      rw [HR.out, he, d3, d2, d1]; rfl
                    have HY := Lib.hid hy
                    have D3 := Lib.hid d3
                    have D2 := Lib.hid d2
                    have D1 := Lib.hid d1
                    clear hy he d3 d2 d1
                    have a1 : (48 : Int) ≤ (s[k + 1].toNat : Int) := by omega
                    have a2 : (s[k + 1].toNat : Int) ≤ 55 := by omega
                    go_enter Tryd.func26, Tryd.ntmps26
                    go_wp2_with (first
                      | (go_at_call 36; (with_reducible refine (in_false _ _ hin.out).mono ?_); rintro e w' ⟨rfl, hw⟩; obtain rfl := hw.symm; clear hw)
                      | (go_at_call 37; (with_reducible refine (digits3 s k false _ hs hk1 D3.out).mono ?_); rintro e w' ⟨rfl, hw⟩; obtain rfl := hw.symm; clear hw)
                      | (go_at_call 37; (with_reducible refine (digits2 s k false _ hs hk1 D2.out).mono ?_); rintro e w' ⟨rfl, hw⟩; obtain rfl := hw.symm; clear hw)
                      | (go_at_call 37; (with_reducible refine (digits1 s k true _ hs hk1 D1.out).mono ?_); rintro e w' ⟨rfl, hw⟩; obtain rfl := hw.symm; clear hw))
                    go_ret2
                    exact RReadIs.yes HY.out (drew0 _) (by omega) rfl
                · obtain ⟨z, -, r⟩ := dg_at (by omega) d2
                  have hk2 : k + 2 < s.size := by omega
                  have r0 : 48 ≤ s[k + 1].toNat ∧ s[k + 1].toNat ≤ 55 := r 0 (by omega) hk1
                  have r1 : 48 ≤ s[k + 2].toNat ∧ s[k + 2].toNat ≤ 55 := r 1 (by omega) hk2
                  clear r
                  have hy : rd (bts s) (k : Int) = some (8 * (s[k + 1].toNat - 48) + (s[k + 2].toNat - 48), 3) := by
                    rw [HR.out, he, d3, d2]
                    have e1 := drop_getD s (k + 1 + 1) 0 hk2
                    rw [e1]; rfl
                  have HY := Lib.hid hy
                  have D3 := Lib.hid d3
                  have D2 := Lib.hid d2
                  clear hy he d3 d2
                  have a1 : (48 : Int) ≤ (s[k + 1].toNat : Int) := by omega
                  have a2 : (s[k + 1].toNat : Int) ≤ 55 := by omega
                  have a3 : (48 : Int) ≤ (s[k + 2].toNat : Int) := by omega
                  have a4 : (s[k + 2].toNat : Int) ≤ 55 := by omega
                  go_enter Tryd.func26, Tryd.ntmps26
                  go_wp2_with (first
                    | (go_at_call 36; (with_reducible refine (in_false _ _ hin.out).mono ?_); rintro e w' ⟨rfl, hw⟩; obtain rfl := hw.symm; clear hw)
                    | (go_at_call 37; (with_reducible refine (digits3 s k false _ hs hk1 D3.out).mono ?_); rintro e w' ⟨rfl, hw⟩; obtain rfl := hw.symm; clear hw)
                    | (go_at_call 37; (with_reducible refine (digits2 s k true _ hs hk1 D2.out).mono ?_); rintro e w' ⟨rfl, hw⟩; obtain rfl := hw.symm; clear hw))
                  go_ret2
                  exact RReadIs.yes HY.out (drew0 _) (by omega) rfl
              · obtain ⟨z, -, -⟩ := dg_at (by omega) d3
                have hk2 : k + 2 < s.size := by omega
                have hk3 : k + 3 < s.size := by omega
                have hy : rd (bts s) (k : Int) = some (64 * (s[k + 1].toNat - 48) + 8 * (s[k + 2].toNat - 48) + (s[k + 3].toNat - 48), 4) := by
                  rw [HR.out, he, d3]
                  have e1 := drop_getD s (k + 1 + 1) 0 hk2
                  have e2 := drop_getD s (k + 1 + 1) 1 hk3
                  rw [e1, e2]; rfl
                have HY := Lib.hid hy
                exact rread_three s k w hs hk h92 hk1 h256 b1 b2 b3 hin d3 hn (fun _ _ => HY.out)
        · have hr := Lib.hid (show rd (bts s) (k : Int) = none by rw [rd_nat, hd, List.drop_eq_nil_of_le (by rw [bts_length]; omega)]; rfl)
          clear hd
          go_enter Tryd.func26, Tryd.ntmps26
          go_wp2
          go_ret2
          exact RReadIs.no hr.out (drew0 _)
      · have hr := Lib.hid (show rd (bts s) (k : Int) = some (s[k].toNat, 1) by rw [rd_nat, hd, rdl_plain _ _ h92])
        have hb := beq_no (d := s[k].toNat) (k := 92) (by omega)
        have h256 : s[k].toNat < 256 := s[k].toNat_lt
        have h255 : (s[k].toNat : Int) ≤ 255 := by omega
        clear hd h256
        go_enter Tryd.func26, Tryd.ntmps26
        go_wp2
        go_ret2
        exact RReadIs.yes hr.out (drew0 _) rfl rfl
    · have hr := Lib.hid (rd_high (bts s) k (by rw [bts_length]; omega))
      go_enter Tryd.func26, Tryd.ntmps26
      go_wp2
      go_ret2
      exact RReadIs.no hr.out (drew0 _)
theorem rread_no (s : ByteArray) (p : Int) (w : World) (hs : s.size ≤ 2000000) (h : rd (bts s) p = none) :
    Calls Tryd.prog 26 #[.string s, .int .i64 p] w fun e w' => e = .returned (.tuple #[.int .i64 0, .int .i64 (-1)]) ∧ ∃ m, w' = w.drewN m := by
  have := rread_any s p w hs
  unfold RReadIs rreadV at this
  rw [h] at this
  exact this
theorem rread_yes (s : ByteArray) (p : Int) (c n : Nat) (w : World) (hs : s.size ≤ 2000000) (h : rd (bts s) p = some (c, n)) :
    Calls Tryd.prog 26 #[.string s, .int .i64 p] w fun e w' => e = .returned (.tuple #[.int .i64 (c : Int), .int .i64 (p + (n : Int))]) ∧ ∃ m, w' = w.drewN m := by
  have := rread_any s p w hs
  unfold RReadIs rreadV at this
  rw [h] at this
  exact this
end Go.Proofs.YtipokoalcbaolaaDoor
