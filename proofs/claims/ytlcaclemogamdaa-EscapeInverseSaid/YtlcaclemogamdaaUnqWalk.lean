/- The contract of the program's Unquote. -/
import Derived.Test.YtlcaclemogamdaaUnqRef
namespace Go.Proofs.Ytlcaclemogamdaa
open Go.RowKit
theorem unquoteL_last (s : ByteArray) (h0 : 0 < s.size) (hz : 2 ≤ s.size) (h : s[s.size - 1].toNat ≠ s[0].toNat) : unquoteL (bts s) = none := by
  unfold unquoteL
  rw [if_neg (fun e => h ?_)]
  have e := e.2.2
  rw [List.getLast?_eq_getElem?, bts_length, bts_at s (s.size - 1) (by omega), bts_cons s h0, List.headD_cons] at e
  exact Option.some.inj e
theorem unquoteL_yes (s : ByteArray) (h0 : 0 < s.size) (hz : 2 ≤ s.size) (hq : s[0].toNat = 39 ∨ s[0].toNat = 34) (h : s[s.size - 1].toNat = s[0].toNat) :
    unquoteL (bts s) = unq s[0].toNat (bts (s.extract 1 (s.size - 1))) := by
  unfold unquoteL
  have hh : (bts s).headD 0 = s[0].toNat := by rw [bts_cons s h0, List.headD_cons]
  rw [if_pos ⟨by rw [bts_length]; exact hz, by rw [hh]; exact hq, by rw [hh, List.getLast?_eq_getElem?, bts_length, bts_at s (s.size - 1) (by omega), h]⟩, hh, bts_extract, bts_length]
  congr 2
set_option maxHeartbeats 2000000 in
set_option maxRecDepth 100000 in
theorem unquote_go (s : ByteArray) (w : World) (hz : s.size ≤ 1000000) (h0 : 0 < s.size) (h2 : 2 ≤ s.size) (hq : s[0].toNat = 39 ∨ s[0].toNat = 34) (hl : s[s.size - 1].toNat = s[0].toNat) :
    Calls Try.prog 14 #[.string s] w (UnqIs (unquoteL (bts s)) w) := by
  obtain ⟨i0, hi0, hz0, hz1, hz2⟩ := info_parts infoU8
  have hL := unquoteL_yes s h0 h2 hq hl
  have hB0 := Lib.hid (Below.refl w.heap.size w)
  obtain ⟨q, hqd⟩ : ∃ q : Nat, s[0].toNat = q := ⟨_, rfl⟩
  have l5 : (1 : Int) ≤ (s.size : Int) := by omega
  have d1 : decide ((s.size : Int) - 1 < 1) = false := by rw [decide_eq_false_iff_not]; omega
  have d2 : decide ((s.size : Int) ≤ 1) = false := by rw [decide_eq_false_iff_not]; omega
  have l1 : ((s.size : Int) - 1).toNat = s.size - 1 := by omega
  have l2 : 0 ≤ (s.size : Int) - 1 := by omega
  have l3 : (s.size : Int) - 1 < (s.size : Int) := by omega
  have h0' : (0 : Int) < (s.size : Int) := by omega
  have l4 : s.size - 1 < s.size := by omega
  have ksl : ∀ w, (Instr.slice 9 (.string s) (some (.int .i64 1)) (some (.int .i64 ((s.size : Int) - 1))) none).run Try.prog w = .ok (.string (s.extract 1 (s.size - 1))) w := fun w => by
    have := run_slice_string (P := Try.prog) (w := w) 9 s .i64 .i64 1 ((s.size : Int) - 1) Try.underlying9 (by omega) (by omega) (by omega)
    rw [l1] at this
    exact this
  have hts : (s.extract 1 (s.size - 1)).size ≤ 1000000 := by rw [ByteArray.size_extract]; omega
  generalize s.extract 1 (s.size - 1) = t at ksl hts hL
  rw [hqd] at hL hl
  have HL := Lib.hid hL
  have hq' : q = 39 ∨ q = 34 := by rw [← hqd]; exact hq
  clear hL hq
  rcases hq' with hq1 | hq1
  all_goals
    subst hq1
    go_enter Try.func14, Try.ntmps14
    go_wp2_with fail
    go_quiet (fail)
    go_wp2_with fail
    go_loopw [6, 7] (fun v c wr => ∃ (k : Nat) (acc : List Nat), k ≤ t.size ∧ c = .int .i64 k ∧ wr.ownsRow w.heap.size 5 1 v acc.length (u8s acc) ∧ Below w.heap.size w wr ∧ acc.length ≤ k ∧ unquoteL (bts s) = (unq s[0].toNat ((bts t).drop k)).map (acc ++ ·)) (fun _ c _ => t.size - (intOf c).toNat)
    case atStart => exact ⟨0, [], Nat.zero_le _, rfl, World.ownsRow_nil _ _ _ _, below_drewN hB0.out, Nat.zero_le _, by rw [hqd, HL.out]; simp⟩
    case round =>
      obtain ⟨k, acc, hk, rfl, hs, hb, hac, hu⟩ := hrel
      have HU := Lib.hid hu
      clear hu
      have hsz := hb.size
      by_cases hlt : k < t.size
      · have hdk := bts_drop t k hlt
        have hlt' : (k : Int) < (t.size : Int) := by omega
        cases hr : rd (bts t) (k : Int) with
        | none =>
          have hr' : unquoteL (bts s) = none := by
            rw [rd_nat, hdk] at hr
            rw [HU.out, hdk, unq_bad hr]; rfl
          have HR := Lib.hid hr'
          have HD := Lib.hid hr
          clear hr hr' hdk
          go_wp2_with (go_at_call 9; (with_reducible refine (eread_no t (k : Int) _ hts HD.out).mono ?_); rintro e w' ⟨rfl, hw⟩; obtain rfl := hw.symm; clear hw)
          go_quiet (fail)
          go_wp2
          go_ret2
          exact UnqIs.no HR.out (below_drewN hb)
        | some x =>
          obtain ⟨c, n⟩ := x
          obtain ⟨p0, p1, p2, p3⟩ := rd_some hr
          have HD := Lib.hid hr
          by_cases hd : t[k].toNat = s[0].toNat
          · have hr' : unquoteL (bts s) = none := by
              rw [HU.out, hdk, hd, unq_quote]; rfl
            have HR := Lib.hid hr'
            clear hr hr' hdk p3
            go_wp2_with (go_at_call 9; (with_reducible refine (eread_yes t (k : Int) c n _ hts HD.out).mono ?_); rintro e w' ⟨rfl, hw⟩; obtain rfl := hw.symm; clear hw)
            go_quiet (fail)
            go_wp2
            go_ret2
            exact UnqIs.no HR.out (below_drewN hb)
          · have hr' : unquoteL (bts s) = (unq s[0].toNat ((bts t).drop (k + n))).map ((acc ++ [c]) ++ ·) := by
              rw [rd_nat, hdk] at hr
              rw [HU.out, hdk, unq_step hr hd, ← hdk, List.drop_drop, map_map_cons]
            have HR := Lib.hid hr'
            have hdq : ((t[k].toNat : Int) == (s[0].toNat : Int)) = false := by rw [beq_eq_false_iff_ne]; omega
            rw [hqd] at hdq
            have q1 : (c : Int) ≤ 255 := by omega
            clear hr hr' hdk hd p3
            go_wp2_with (go_at_call 9; (with_reducible refine (eread_yes t (k : Int) c n _ hts HD.out).mono ?_); rintro e w' ⟨rfl, hw⟩; obtain rfl := hw.symm; clear hw)
            go_quiet (fail)
            have hb1 := below_drewN (m := nq) hb
            have hs1 := ownsRow_grown hs (below_drewN (m := nq) (Below.refl _ _))
            go_wp2_with (at_builtin; refine wpList_append_own _ rfl _ _ 30 rfl w.heap.size 5 i0 (.int .u8 0) 1 1 Try.underlying30 hi0 hz0 hz1 hz2 rfl (by decide) _ _ _ rfl (hs1.alloc _) ⟨wr.heap.size, 0, none⟩ 1 1 [.int .u8 (c : Int)] rfl rfl (cell_one_new _ _ _) (by simp [Value.oneCell']) (by unfold maxLen; omega) (by omega) (by simp; omega) ?_; intro v' w2 hown' hgrow _)
            have hb2 := (hb1.alloc (by simp; omega) (.cells #[_] 5)).grown hgrow (by simp; omega) (fun k e => (hs1.lt k e).1)
            rw [← u8s_snoc] at hown'
            exact ⟨⟨k + n, acc ++ [c], by omega, by go_num, by simpa using hown', hb2, by simp; omega, HR.out⟩, by simp [intOf]; omega⟩
      · have hr : unquoteL (bts s) = some acc := by
          rw [HU.out, List.drop_eq_nil_of_le (by rw [bts_length]; omega), unq_nil]; simp
        have HR := Lib.hid hr
        clear hr
        go_wp2
        go_ret2
        exact UnqIs.yes HR.out hs hb
set_option maxHeartbeats 1000000 in
theorem unquote_any (s : ByteArray) (w : World) (hz : s.size ≤ 1000000) :
    Calls Try.prog 14 #[.string s] w (UnqIs (unquoteL (bts s)) w) := by
  by_cases h2 : 2 ≤ s.size
  · have h0 : 0 < s.size := by omega
    have l5 : (1 : Int) ≤ (s.size : Int) := by omega
    have d1 : decide ((s.size : Int) - 1 < 1) = false := by rw [decide_eq_false_iff_not]; omega
    have d2 : decide ((s.size : Int) ≤ 1) = false := by rw [decide_eq_false_iff_not]; omega
    have l1 : ((s.size : Int) - 1).toNat = s.size - 1 := by omega
    have l2 : 0 ≤ (s.size : Int) - 1 := by omega
    have l3 : (s.size : Int) - 1 < (s.size : Int) := by omega
    have h0' : (0 : Int) < (s.size : Int) := by omega
    have l4 : s.size - 1 < s.size := by omega
    have HB := Lib.hid (Below.refl w.heap.size w)
    by_cases hq : s[0].toNat = 39 ∨ s[0].toNat = 34
    · by_cases hl : s[s.size - 1].toNat = s[0].toNat
      · exact unquote_go s w hz h0 h2 hq hl
      · have hr := Lib.hid (unquoteL_last s h0 h2 hl)
        have hl' : ((s[s.size - 1].toNat : Int) != (s[0].toNat : Int)) = true := by rw [bne_iff_ne]; omega
        clear hl
        rcases hq with hq | hq
        all_goals
          rw [hq] at hl'
          go_enter Try.func14, Try.ntmps14
          go_wp2_with fail
          go_quiet (fail)
          go_wp2
          go_ret2
          exact UnqIs.no hr.out (below_drewN HB.out)
    · have hr := Lib.hid (unquoteL_head (bts s) (by rw [bts_cons s h0, List.headD_cons]; exact hq))
      have h1 : ((s[0].toNat : Int) != 39) = true := by rw [bne_iff_ne]; omega
      have h3 : ((s[0].toNat : Int) != 34) = true := by rw [bne_iff_ne]; omega
      clear hq
      go_enter Try.func14, Try.ntmps14
      go_wp2_with fail
      go_quiet (fail)
      go_wp2
      go_ret2
      exact UnqIs.no hr.out (below_drewN HB.out)
  · have hr := Lib.hid (unquoteL_short (bts s) (by rw [bts_length]; exact h2))
    have d1 : decide ((s.size : Int) - 1 < 1) = true := by rw [decide_eq_true_iff]; omega
    have d2 : decide ((s.size : Int) ≤ 1) = true := by rw [decide_eq_true_iff]; omega
    have d3 : (s.size : Int) - 1 < 1 := by omega
    have HB := Lib.hid (Below.refl w.heap.size w)
    clear h2
    go_enter Try.func14, Try.ntmps14
    go_wp2_with fail
    go_quiet (fail)
    go_wp2
    go_ret2
    exact UnqIs.no hr.out (below_drewN HB.out)
end Go.Proofs.Ytlcaclemogamdaa
