/- The contracts of the reference's Letter, Name and skip. -/
import Derived.Test.YtipokoalcbaolaaDoorBase
import Derived.Test.YtipokoalcbaolaaDoorLexMath
namespace Go.Proofs.YtipokoalcbaolaaDoor
open Go.RowKit
set_option maxHeartbeats 1000000 in
theorem letter_any (c : Int) (b : Bool) (w : World) (h0 : 0 ≤ c) :
    Calls Tryd.prog 24 #[.int .u8 c, .bool b] w fun e w' => e = .returned (.bool (letB c.toNat b)) ∧ w' = w := by
  by_cases hd : 48 ≤ c ∧ c ≤ 57
  · have hr := Lib.hid (show letB c.toNat b = !b by unfold letB; rw [if_pos (by omega)])
    obtain ⟨h1, h2⟩ := hd
    go_enter Tryd.func24, Tryd.ntmps24
    go_wp2
    go_ret
    exact ⟨ret_bool hr.out.symm, rfl⟩
  · have hl : letB c.toNat b = decide (c.toNat = 95 ∨ (97 ≤ c.toNat ∧ c.toNat ≤ 122) ∨ (65 ≤ c.toNat ∧ c.toNat ≤ 90)) := by unfold letB; rw [if_neg (by omega)]
    by_cases h95 : c = 95
    · subst h95
      have hr := Lib.hid (hl.trans (by decide) : letB (95 : Int).toNat b = true)
      clear hl hd
      go_enter Tryd.func24, Tryd.ntmps24
      go_wp2
      go_ret
      exact ⟨ret_bool hr.out.symm, rfl⟩
    · have hb := ibeq_no h95
      have HL := Lib.hid hl
      clear hl
      by_cases h97 : 97 ≤ c
      · have n1 : ¬ c ≤ 57 := by omega
        have n2 : 48 ≤ c := by omega
        have n3 : 65 ≤ c := by omega
        have n4 : ¬ c ≤ 90 := by omega
        by_cases h122 : c ≤ 122
        · have hr := Lib.hid (HL.out.trans (decide_eq_true (by omega)) : letB c.toNat b = true)
          clear hd
          go_enter Tryd.func24, Tryd.ntmps24
          go_wp2
          go_ret
          exact ⟨ret_bool hr.out.symm, rfl⟩
        · have hr := Lib.hid (HL.out.trans (decide_eq_false (by omega)) : letB c.toNat b = false)
          clear hd
          go_enter Tryd.func24, Tryd.ntmps24
          go_wp2
          go_ret
          exact ⟨ret_bool hr.out.symm, rfl⟩
      · by_cases h65 : 65 ≤ c
        · have n1 : ¬ c ≤ 57 := by omega
          have n2 : 48 ≤ c := by omega
          by_cases h90 : c ≤ 90
          · have hr := Lib.hid (HL.out.trans (decide_eq_true (by omega)) : letB c.toNat b = true)
            clear hd
            go_enter Tryd.func24, Tryd.ntmps24
            go_wp2
            go_ret
            exact ⟨ret_bool hr.out.symm, rfl⟩
          · have hr := Lib.hid (HL.out.trans (decide_eq_false (by omega)) : letB c.toNat b = false)
            clear hd
            go_enter Tryd.func24, Tryd.ntmps24
            go_wp2
            go_ret
            exact ⟨ret_bool hr.out.symm, rfl⟩
        · have hr := Lib.hid (HL.out.trans (decide_eq_false (by omega)) : letB c.toNat b = false)
          by_cases h48 : 48 ≤ c
          · have n1 : ¬ c ≤ 57 := by omega
            clear hd
            go_enter Tryd.func24, Tryd.ntmps24
            go_wp2
            go_ret
            exact ⟨ret_bool hr.out.symm, rfl⟩
          · clear hd
            go_enter Tryd.func24, Tryd.ntmps24
            go_wp2
            go_ret
            exact ⟨ret_bool hr.out.symm, rfl⟩
theorem letter_is (c : Nat) (b r : Bool) (w : World) (h : letB c b = r) :
    Calls Tryd.prog 24 #[.int .u8 (c : Int), .bool b] w fun e w' => e = .returned (.bool r) ∧ w' = w := by
  subst h
  exact letter_any (c : Int) b w (by omega)
/-- What skip returns. -/
def SkipIs (o : Nat × Bool) (p : Nat) (w : World) (e : Ending) (w' : World) : Prop := e = .returned (.tuple #[.int .i64 ((p + o.1 : Nat) : Int), .bool o.2]) ∧ w' = w
theorem SkipIs.mk {o : Nat × Bool} {p : Nat} {w : World} {x : Int} {b : Bool} (h1 : x = ((p + o.1 : Nat) : Int)) (h2 : b = o.2) : SkipIs o p w (.returned (.tuple #[.int .i64 x, .bool b])) w := by
  subst h1 h2; exact ⟨rfl, rfl⟩
set_option maxHeartbeats 1000000 in
theorem rskip_any (s : ByteArray) (p : Nat) (w : World) (hs : s.size ≤ 2000000) (hp : p ≤ s.size) :
    Calls Tryd.prog 23 #[.string s, .int .i64 (p : Int)] w (SkipIs (skipL ((bts s).drop p)) p w) := by
  obtain ⟨o, hx⟩ : ∃ o, skipL ((bts s).drop p) = o := ⟨_, rfl⟩
  rw [hx]
  have HX := Lib.hid hx
  clear hx
  go_enter Tryd.func23, Tryd.ntmps23
  go_wp2
  go_loop [1] (fun c => ∃ k : Nat, k ≤ s.size ∧ c = .int .i64 k ∧ k + (skipL ((bts s).drop k)).1 = p + o.1 ∧ (skipL ((bts s).drop k)).2 = o.2) (fun c => s.size - (intOf c).toNat)
  case atStart => exact ⟨p, hp, rfl, by rw [HX.out], by rw [HX.out]⟩
  case round =>
    obtain ⟨k, hk, rfl, h1, h2⟩ := hrel
    have H1 := Lib.hid h1
    have H2 := Lib.hid h2
    clear h1 h2
    by_cases hlt : k < s.size
    · have hd := bts_drop s k hlt
      by_cases hsp : s[k].toNat = 32 ∨ s[k].toNat = 9 ∨ s[k].toNat = 10 ∨ s[k].toNat = 13
      · have hq := skipL_space (r := (bts s).drop (k + 1)) hsp
        rw [← hd] at hq
        have HQ := Lib.hid hq
        clear hd hq
        rcases hsp with h | h | h | h
        all_goals
          go_wp2
          go_round
          case rel => exact ⟨k + 1, by omega, by go_num, by have := H1.out; rw [HQ.out] at this; show k + 1 + _ = _; omega, by have := H2.out; rw [HQ.out] at this; exact this⟩
          case measure => simp [intOf]; omega
      · have e1 := beq_no (d := s[k].toNat) (k := 32) (by omega)
        have e2 := beq_no (d := s[k].toNat) (k := 9) (by omega)
        have e3 := beq_no (d := s[k].toNat) (k := 10) (by omega)
        have e4 := beq_no (d := s[k].toNat) (k := 13) (by omega)
        by_cases h35 : s[k].toNat = 35
        · rw [h35] at hd
          have HD := Lib.hid hd
          clear hd hsp
          go_wp2
          go_loop [6] (fun c => ∃ j : Nat, k ≤ j ∧ j ≤ s.size ∧ c = .int .i64 j ∧ comL ((bts s).drop k) = (comL ((bts s).drop j)).map (· + (j - k))) (fun c => s.size - (intOf c).toNat)
          case atStart => exact ⟨k, Nat.le_refl _, hk, rfl, by simp⟩
          case round =>
            obtain ⟨j, hj1, hj, rfl, hc⟩ := hrel
            have HC := Lib.hid hc
            clear hc
            by_cases hltj : j < s.size
            · have hdj := bts_drop s j hltj
              by_cases hnl : s[j].toNat = 10 ∨ s[j].toNat = 13
              · have hcj := comL_end (r := (bts s).drop (j + 1)) hnl
                rw [← hdj] at hcj
                have hck : comL ((bts s).drop k) = some (j - k) := by rw [HC.out, hcj]; simp
                rw [HD.out, comL_step (by decide)] at hck
                obtain ⟨m, hm, hmj⟩ := Option.map_eq_some_iff.1 hck
                have hq := skipL_com hm
                rw [← HD.out, List.drop_drop] at hq
                have hjm : k + 1 + m = j := by omega
                rw [hjm] at hq
                have HQ := Lib.hid hq
                have HM : Hid (m + 1 = j - k) := Lib.hid hmj
                have hkj : k < j := by omega
                have ej : ((j : Int) == (s.size : Int)) = false := by rw [beq_eq_false_iff_ne]; omega
                clear hdj hcj hck hm hq hjm hmj
                rcases hnl with h | h
                all_goals
                  go_wp2
                  go_round
                  case rel => exact ⟨j, by omega, rfl, by have h3 := H1.out; have h4 := HM.out; rw [HQ.out] at h3; have h5 : k + ((skipL (List.drop j (bts s))).1 + (m + 1)) = p + o.1 := h3; omega, by have := H2.out; rw [HQ.out] at this; exact this⟩
                  case measure => simp [intOf]; omega
              · have hcj := comL_step (r := (bts s).drop (j + 1)) hnl
                rw [← hdj] at hcj
                have hck : comL ((bts s).drop k) = (comL ((bts s).drop (j + 1))).map (· + (j + 1 - k)) := by
                  rw [HC.out, hcj, Option.map_map]
                  refine congrArg (fun f => Option.map f _) (funext fun x => ?_)
                  show x + 1 + (j - k) = x + (j + 1 - k)
                  omega
                have HK := Lib.hid hck
                have f1 : ((s[j].toNat : Int) != 10) = true := by rw [bne_iff_ne]; omega
                have f2 : ((s[j].toNat : Int) != 13) = true := by rw [bne_iff_ne]; omega
                clear hdj hcj hck hnl
                go_wp2
                go_round
                case rel => exact ⟨j + 1, by omega, by omega, by go_num, HK.out⟩
                case measure => simp [intOf]; omega
            · have hck : comL ((bts s).drop k) = none := by
                rw [HC.out, List.drop_eq_nil_of_le (by rw [bts_length]; omega)]; rfl
              rw [HD.out, comL_step (by decide)] at hck
              have hm : comL ((bts s).drop (k + 1)) = none := by
                cases h : comL ((bts s).drop (k + 1)) with
                | none => rfl
                | some m => rw [h] at hck; cases hck
              have hq := skipL_bad hm
              rw [← HD.out] at hq
              have hkn : (k : Int) = ((p + o.1 : Nat) : Int) := by have := H1.out; rw [hq] at this; exact congrArg _ this
              have hbt : false = o.2 := by have := H2.out; rw [hq] at this; exact this
              have HK := Lib.hid hkn
              have HT := Lib.hid hbt
              have ej : ((j : Int) == (s.size : Int)) = true := by rw [beq_iff_eq]; omega
              clear hck hm hq hkn hbt
              go_wp2
              go_ret2
              exact SkipIs.mk HK.out HT.out
        · have hq := skipL_stop (r := (bts s).drop (k + 1)) hsp h35
          rw [← hd] at hq
          have hkn : (k : Int) = ((p + o.1 : Nat) : Int) := by have := H1.out; rw [hq] at this; exact congrArg _ this
          have hbt : true = o.2 := by have := H2.out; rw [hq] at this; exact this
          have e5 : ((s[k].toNat : Int) != 35) = true := by rw [bne_iff_ne]; omega
          have HK := Lib.hid hkn
          have HT := Lib.hid hbt
          clear hd hq hsp hkn hbt
          go_wp2
          go_ret2
          exact SkipIs.mk HK.out HT.out
    · have hq : skipL ((bts s).drop k) = (0, true) := by rw [List.drop_eq_nil_of_le (by rw [bts_length]; omega)]; exact skipL_nil
      have hkn : (k : Int) = ((p + o.1 : Nat) : Int) := by have := H1.out; rw [hq] at this; exact congrArg _ this
      have hbt : true = o.2 := by have := H2.out; rw [hq] at this; exact this
      have HK := Lib.hid hkn
      have HT := Lib.hid hbt
      clear hq hkn hbt
      go_wp2
      go_ret2
      exact SkipIs.mk HK.out HT.out
set_option maxHeartbeats 1000000 in
theorem rname_any (s : ByteArray) (w : World) (hs : s.size ≤ 2000000) :
    Calls Tryd.prog 15 #[.string s] w fun e w' => e = .returned (.bool (nameB (bts s))) ∧ w' = w := by
  by_cases h0 : 0 < s.size
  · have hE := isEmpty_no h0
    have hne : nameB (bts s) = allF true (bts s) := by unfold nameB; rw [bts_cons s h0]; rfl
    have HN := Lib.hid hne
    clear hne
    go_enter Tryd.func15, Tryd.ntmps15
    go_wp2
    go_loop [3] (fun c => ∃ k : Nat, k ≤ s.size ∧ c = .int .i64 k ∧ nameB (bts s) = allF ((k : Int) == 0) ((bts s).drop k)) (fun c => s.size - (intOf c).toNat)
    case atStart => exact ⟨0, Nat.zero_le _, rfl, HN.out⟩
    case round =>
      obtain ⟨k, hk, rfl, hr⟩ := hrel
      have HR := Lib.hid hr
      clear hr
      by_cases hlt : k < s.size
      · have hd := bts_drop s k hlt
        cases hl : letB s[k].toNat ((k : Int) == 0)
        · have hq := Lib.hid (show nameB (bts s) = false by rw [HR.out, hd, allF_no hl])
          have HL := Lib.hid hl
          clear hl hd
          go_wp2_with (go_at_call 24; refine (letter_is _ _ false _ HL.out).mono ?_; rintro e w' ⟨rfl, hw⟩; obtain rfl := hw.symm; clear hw)
          go_ret
          exact ⟨ret_bool hq.out.symm, rfl⟩
        · have hq : nameB (bts s) = allF false ((bts s).drop (k + 1)) := by rw [HR.out, hd, allF_yes hl]
          have hz : (((k + 1 : Nat) : Int) == 0) = false := by rw [beq_eq_false_iff_ne]; omega
          have HQ := Lib.hid (show nameB (bts s) = allF (((k + 1 : Nat) : Int) == 0) ((bts s).drop (k + 1)) by rw [hz]; exact hq)
          have HL := Lib.hid hl
          clear hl hd hq hz
          go_wp2_with (go_at_call 24; refine (letter_is _ _ true _ HL.out).mono ?_; rintro e w' ⟨rfl, hw⟩; obtain rfl := hw.symm; clear hw)
          go_round
          case rel => exact ⟨k + 1, by omega, by go_num, HQ.out⟩
          case measure => simp [intOf]; omega
      · have hq := Lib.hid (show nameB (bts s) = true by rw [HR.out, List.drop_eq_nil_of_le (by rw [bts_length]; omega)]; rfl)
        go_wp2
        go_ret
        exact ⟨ret_bool hq.out.symm, rfl⟩
  · have hE := isEmpty_yes h0
    have hz : s.size = 0 := by omega
    have hne := Lib.hid (show nameB (bts s) = false by rw [List.eq_nil_of_length_eq_zero (l := bts s) (by rw [bts_length]; exact hz)]; rfl)
    have h1 : (s.size : Int) = 0 := by omega
    clear h0 hz
    go_enter Tryd.func15, Tryd.ntmps15
    go_wp2
    refine wp_loop_rounds 1 ?_
    rw [rounds_succ]
    go_wp2
    go_ret
    exact ⟨ret_bool hne.out.symm, rfl⟩
end Go.Proofs.YtipokoalcbaolaaDoor
