/- SyntaxDeep. -/
import Derived.Test.YtmjnbapkpcfgcaaGreatDoorPkSynLawC
namespace Go.Proofs.YtmjnbapkpcfgcaaGreatDoor
section
open Go.RowKit
def CodeIs (O : FO) (code : Int) : Prop := match O with
  | .ok _ _ => (code != 0) = false
  | .bad _ _ => (code != 0) = true
theorem ref_any {O : FO} {base : Nat} {w w' : World} {e : Ending} (h : FinIs base O w e w') : ∃ z0 m0 c0 z1 m1 c1 z2 m2 c2 code at1, e = .returned (.tuple #[.agg #[.slice z0 m0 c0, .slice z1 m1 c1, .slice z2 m2 c2], .int .i64 code, .int .i64 at1]) ∧ CodeIs O code ∧ Below w.heap.size w w' := by
  cases O with
  | ok rs f =>
    obtain ⟨va, vc, na, nc, ca, cc, qs, rfl, -, -, -, h4⟩ := h
    exact ⟨_, _, _, _, _, _, _, _, _, _, _, rfl, rfl, h4⟩
  | bad a dp =>
    obtain ⟨rfl, h4⟩ := h
    exact ⟨_, _, _, _, _, _, _, _, _, _, _, rfl, by cases dp <;> rfl, h4⟩
set_option maxHeartbeats 8000000 in
set_option maxRecDepth 100000 in
theorem law8_deep (more : Nat) (s : ByteArray) (w : World) (hm : more ≤ 255) (hs : s.size ≤ 1050000) (hl : LexLaid w) : Calls Tryz.prog 7 #[.int .u8 (more : Int), .string s] w fun e w' => e = .returned (.bool true) ∧ Below w.heap.size w w' := by
  have HAW := Lib.hid fun (W : World) (hb : Below w.heap.size w W) => awake8_any W (hl.kept hb (Nat.le_refl _))
  have HB0 := Lib.hid (Below.refl w.heap.size w)
  have HX0 := Lib.hid fun (W : World) (_ : Below w.heap.size w W) => (qExpression_any s W hs).mono fun e w' h => ref_any h
  have HNM := Lib.hid fun (W : World) => rname_any s W (by omega)
  have HL := Lib.hid hl
  by_cases h100 : s.size ≤ 100
  · have k1 : ¬ (100 : Int) < (s.size : Int) := by omega
    cases hO : rexL (bts s) with
    | bad a dp =>
      rw [hO] at HX0
      clear hO hl hs
      go_enter Tryz.func7, Tryz.ntmps7
      go_wp2_with (first
        | (go_at_call 15; (with_reducible refine (HX0.out _ HB0.out).mono ?_); rintro e w1 ⟨z0, m0, c0, z1, m1, c1, z2, m2, c2, code, at1, rfl, hcode, hb⟩; have hcode : (code != 0) = true := hcode; have hn := one_new w1 (.cells #[.slice z0 m0 c0, .slice z1 m1 c1, .slice z2 m2 c2] 35); have HBX := Lib.hid ((HB0.out.trans (hb.mono HB0.out.size)).trans (hn.mono (Nat.le_trans HB0.out.size hb.size))); clear hb hn)
        | (go_at_call 8; (with_reducible refine (HAW.out _ HBY.out).mono ?_); rintro e w3 ⟨rfl, hb⟩; have HBZ := Lib.hid (HBY.out.trans (hb.mono HBY.out.size)); clear hb)
        | (go_at_call 8; (with_reducible refine (HAW.out _ HBX.out).mono ?_); rintro e w2 ⟨rfl, hb⟩; have HBY := Lib.hid (HBX.out.trans (hb.mono HBX.out.size)); clear hb))
      go_ret
      exact ⟨rfl, HBZ.out⟩
    | ok rs0 f0 =>
      rw [hO] at HX0
      cases hnm : nameB (bts s) with
      | true =>
        rw [hnm] at HNM
        clear hO hl hs hnm
        go_enter Tryz.func7, Tryz.ntmps7
        go_wp2_with (first
          | (go_at_call 15; (with_reducible refine (HX0.out _ HB0.out).mono ?_); rintro e w1 ⟨z0, m0, c0, z1, m1, c1, z2, m2, c2, code, at1, rfl, hcode, hb⟩; have hcode : (code != 0) = false := hcode; have hn := one_new w1 (.cells #[.slice z0 m0 c0, .slice z1 m1 c1, .slice z2 m2 c2] 35); have HBX := Lib.hid ((HB0.out.trans (hb.mono HB0.out.size)).trans (hn.mono (Nat.le_trans HB0.out.size hb.size))); clear hb hn)
          | (go_at_call 8; (with_reducible refine (HAW.out _ HBY.out).mono ?_); rintro e w3 ⟨rfl, hb⟩; have HBZ := Lib.hid (HBY.out.trans (hb.mono HBY.out.size)); clear hb)
          | (go_at_call 8; (with_reducible refine (HAW.out _ HBX.out).mono ?_); rintro e w2 ⟨rfl, hb⟩; have HBY := Lib.hid (HBX.out.trans (hb.mono HBX.out.size)); clear hb)
          | (go_at_call 17; (with_reducible refine (HNM.out _).mono ?_); rintro e wn ⟨rfl, hw⟩; obtain rfl := hw.symm; clear hw))
        go_ret
        exact ⟨rfl, HBZ.out⟩
      | false =>
        rw [hnm] at HNM
        clear hO hl hs hnm
        have hr : 0 ≤ ((more : Int).tmod 5) ∧ ((more : Int).tmod 5) ≤ 4 := ⟨Int.tmod_nonneg 5 (by omega), by have := Int.tmod_lt_of_pos (more : Int) (by decide : (0 : Int) < 5); omega⟩
        obtain ⟨rm, hrm⟩ : ∃ y : Nat, ((more : Int).tmod 5) = (y : Int) := ⟨((more : Int).tmod 5).toNat, by omega⟩
        have hrm4 : rm ≤ 4 := by omega
        have v1 : IntKind.i64.wrap (more : Int) = (more : Int) := IntWalk.i64_in _ (by omega)
        have v2 : IntKind.i64.wrap ((more : Int).tmod 5) = (rm : Int) := by rw [hrm]; exact IntWalk.i64_in _ (by omega)
        have v3 : IntKind.i64.wrap (198 + (rm : Int)) = 198 + (rm : Int) := IntWalk.i64_in _ (by omega)
        clear hr
        go_enter Tryz.func7, Tryz.ntmps7
        go_upto_region 6 with (first
          | (go_at_call 15; (with_reducible refine (HX0.out _ HB0.out).mono ?_); rintro e w1 ⟨z0, m0, c0, z1, m1, c1, z2, m2, c2, code, at1, rfl, hcode, hb⟩; have hcode : (code != 0) = false := hcode; have hn := one_new w1 (.cells #[.slice z0 m0 c0, .slice z1 m1 c1, .slice z2 m2 c2] 35); have HBX := Lib.hid ((HB0.out.trans (hb.mono HB0.out.size)).trans (hn.mono (Nat.le_trans HB0.out.size hb.size))); clear hb hn)
          | (go_at_call 8; (with_reducible refine (HAW.out _ HBX.out).mono ?_); rintro e w2 ⟨rfl, hb⟩; have HBY := Lib.hid (HBX.out.trans (hb.mono HBX.out.size)); clear hb)
          | (go_at_call 17; (with_reducible refine (HNM.out _).mono ?_); rintro e wn ⟨rfl, hw⟩; obtain rfl := hw.symm; clear hw))
        go_wp2
        go_loopw [9, 10] (fun v c wr => ∃ (k : Nat) (S : ByteArray), (k : Int) ≤ 198 + (rm : Int) ∧ c = .int .i64 k ∧ v = .string S ∧ S.size = s.size + 2 * k ∧ wr = w2) (fun _ c _ => 300 - (intOf c).toNat)
        case atStart => exact ⟨0, s, by omega, rfl, rfl, rfl, rfl⟩
        case round =>
          obtain ⟨k, S, hk, rfl, rfl, hS, rfl⟩ := hrel
          have HSZ := Lib.hid hS
          by_cases hlt : (k : Int) < 198 + (rm : Int)
          · have e1 : (⟨#[40]⟩ : ByteArray).size = 1 := rfl
            have e2 : (⟨#[41]⟩ : ByteArray).size = 1 := rfl
            have s1 : ∀ w, (Op.stringOp .add ⟨#[40]⟩ S).run Tryz.prog w = .ok (.string (⟨#[40]⟩ ++ S)) w := fun w => run_string_add_sum w _ _ (by omega)
            have s2 : ∀ w, (Op.stringOp .add (⟨#[40]⟩ ++ S) ⟨#[41]⟩).run Tryz.prog w = .ok (.string (⟨#[40]⟩ ++ S ++ ⟨#[41]⟩)) w := fun w => run_string_add_sum w _ _ (by rw [ByteArray.size_append]; omega)
            have v5 : IntKind.i64.wrap ((k : Int) + 1) = (k : Int) + 1 := IntWalk.i64_in _ (by omega)
            have HZ : Hid ((⟨#[40]⟩ ++ S ++ ⟨#[41]⟩ : ByteArray).size = s.size + 2 * (k + 1)) := Lib.hid (by rw [ByteArray.size_append, ByteArray.size_append]; omega)
            clear hS e1 e2
            go_wp2
            go_roundw
            case rel => exact ⟨k + 1, ⟨#[40]⟩ ++ S ++ ⟨#[41]⟩, by omega, by go_num, rfl, HZ.out, by first | rfl | trivial⟩
            case measure => simp [intOf]; omega
          · have hSz : S.size ≤ 1000 := by omega
            clear hS
            cases hO : rexL (bts S) with
            | ok rs f =>
              have HBD := Lib.hid (rex_bounds (by omega) hO)
              have HP := Lib.hid fun (W : World) (hb : Below w.heap.size w W) => (pExpression_any S W (HL.out.2.kept hb (Nat.le_refl _)) (by omega)).mono fun e w' h => parse_ok (by
                rw [exFL_eq, hO] at h
                exact h)
              have HQ := Lib.hid fun (W : World) (_ : Below w.heap.size w W) => (qExpression_any S W (by omega)).mono fun e w' h => fin_ok' (by
                rw [hO] at h
                exact h)
              clear hO hSz
              go_upto_region 14 with (first
                | (go_at_call 14; (with_reducible refine (HP.out _ HBY.out).mono ?_); rintro e w2 ⟨va, vc, na, nc, ca, cc, rfl, hG, hb⟩; have hn := one_new w2 (.cells #[.slice va rs.length vc, .slice na f.nodes.length nc, .slice ca f.calls.length cc] 27); have HG2 := Lib.hid (hG.below hn); have HF2 := Lib.hid (Bl.new w2 27 #[.slice va rs.length vc, .slice na f.nodes.length nc, .slice ca f.calls.length cc]); have HB2 := Lib.hid ((HBY.out.trans (hb.mono HBY.out.size)).trans (hn.mono (Nat.le_trans HBY.out.size hb.size))); clear hG hb hn)
                | (go_at_call 15; (with_reducible refine (HQ.out _ HB2.out).mono ?_); rintro e w3 ⟨vb, vbc, nb, nbc, cb, cbc, rfl, hG, hb⟩; have hn := one_new w3 (.cells #[.slice vb rs.length vbc, .slice nb f.nodes.length nbc, .slice cb f.calls.length cbc] 35); have hbn := hb.trans (hn.mono hb.size); have HH3 := Lib.hid (hG.below hn); have HG3 := Lib.hid (HG2.out.below hbn); have HF3 := Lib.hid (HF2.out.below hbn); have HE3 := Lib.hid (Bl.new w3 35 #[.slice vb rs.length vbc, .slice nb f.nodes.length nbc, .slice cb f.calls.length cbc]); have HB3 := Lib.hid (HB2.out.trans (hbn.mono HB2.out.size)); clear hG hb hn hbn))
              obtain ⟨W3, hW3⟩ : ∃ W3, w3.alloc (.cells #[.slice vb rs.length vbc, .slice nb f.nodes.length nbc, .slice cb f.calls.length cbc] 35) = W3 := ⟨_, rfl⟩
              obtain ⟨F1, hF1⟩ : ∃ F1, w2.heap.size = F1 := ⟨_, rfl⟩
              obtain ⟨F2, hF2⟩ : ∃ F2, w3.heap.size = F2 := ⟨_, rfl⟩
              rw [hW3] at HH3 HG3 HF3 HE3 HB3
              rw [hF1] at HF3
              rw [hF2] at HE3
              rw [hW3, hF1, hF2]
              clear hW3 hF1 hF2 HG2 HF2 HB2
              have f0 := HF3.out.cell (o := 0) (u := .slice va rs.length vc) rfl
              have f1 := HF3.out.cell (o := 1) (u := .slice na f.nodes.length nc) rfl
              have f2 := HF3.out.cell (o := 2) (u := .slice ca f.calls.length cc) rfl
              have g0 := HE3.out.cell (o := 0) (u := .slice vb rs.length vbc) rfl
              have g1 := HE3.out.cell (o := 1) (u := .slice nb f.nodes.length nbc) rfl
              have g2 := HE3.out.cell (o := 2) (u := .slice cb f.calls.length cbc) rfl
              have fl := HF3.out.lt
              have gl := HE3.out.lt
              have HBK := Lib.hid (fun (W : World) (hW : Below W3.heap.size W3 W) => (back8_any _ _ _ rs f W (HG3.out.below hW) HBD.out.1 HBD.out.2).mono fun e w' k => back_same (HG3.out.below hW) k)
              go_region_with (first
                | (go_at_call 12; (refine (HBK.out _ ?_).mono ?_); (· repeat (first | exact Below.refl _ _ | refine Below.drew ?_)); rintro e w4 ⟨vd, vdc, ce, cec, rfl, hF4, hb⟩; have hb4 : Below W3.heap.size W3 w4 := Below.trans (by repeat (first | exact Below.refl _ _ | refine Below.drew ?_)) (hb.mono (by simp)); have HH4 := Lib.hid (HH3.out.below hb4); have HE4 := Lib.hid (HE3.out.below hb4); have HK4 := Lib.hid hF4; have HB4 := Lib.hid (HB3.out.trans (hb4.mono HB3.out.size)); clear f0 f1 f2 fl; have f5 := HE4.out.cell (o := 0) (u := .slice vb rs.length vbc) rfl; have f6 := HE4.out.cell (o := 1) (u := .slice nb f.nodes.length nbc) rfl; have f7 := HE4.out.cell (o := 2) (u := .slice cb f.calls.length cbc) rfl; have gl4 := HE4.out.lt; clear hb hb4 hF4)
                | (go_at_call 11; (refine (qsame_true _ _ _ _ _ _ _ _ _ HK4.out HH4.out).mono ?_); rintro e w5 ⟨rfl, hb⟩; have HB5 := Lib.hid (HB4.out.trans (hb.mono HB4.out.size)); clear hb))
              all_goals
                go_wp2
                go_ret
                exact ⟨rfl, HB5.out⟩
            | bad a dp =>
              have HP := Lib.hid fun (W : World) (hb : Below w.heap.size w W) => (pExpression_any S W (HL.out.2.kept hb (Nat.le_refl _)) (by omega)).mono fun e w' h => parse_bad (by
                rw [exFL_eq, hO] at h
                exact h)
              have HQ := Lib.hid fun (W : World) (_ : Below w.heap.size w W) => (qExpression_any S W (by omega)).mono fun e w' h => fin_bad' (by
                rw [hO] at h
                exact h)
              have HWR := Lib.hid fun (W : World) (hb : Below w.heap.size w W) => wrong8_yes (erC dp) (pos a) W (HL.out.kept hb (Nat.le_refl _))
              have ek : (erC dp != 0) = true := by cases dp <;> rfl
              obtain ⟨c, hc⟩ : ∃ c, erC dp = c := ⟨_, rfl⟩
              rw [hc] at HQ HP HWR ek
              clear hO hSz hc
              go_wp2_with (first
                | (go_at_call 14; (with_reducible refine (HP.out _ HBY.out).mono ?_); rintro e w2 ⟨rfl, hb⟩; have hn := one_new w2 (.cells #[.slice none 0 0, .slice none 0 0, .slice none 0 0] 27); have HF2 := Lib.hid (Bl.new w2 27 #[.slice none 0 0, .slice none 0 0, .slice none 0 0]); have HB2 := Lib.hid ((HBY.out.trans (hb.mono HBY.out.size)).trans (hn.mono (Nat.le_trans HBY.out.size hb.size))); clear hb hn)
                | (go_at_call 15; (with_reducible refine (HQ.out _ HB2.out).mono ?_); rintro e w3 ⟨rfl, hb⟩; have hn := one_new w3 (.cells #[.slice none 0 0, .slice none 0 0, .slice none 0 0] 35); have hbn := hb.trans (hn.mono hb.size); have HF3 := Lib.hid (HF2.out.below hbn); have HB3 := Lib.hid (HB2.out.trans (hbn.mono HB2.out.size)); clear hb hn hbn)
                | (go_at_call 13; (with_reducible refine (HWR.out _ HB3.out).mono ?_); rintro e w6 ⟨rfl, hb⟩; have HB6 := Lib.hid (HB3.out.trans (hb.mono HB3.out.size)); clear hb))
              go_ret
              exact ⟨rfl, HB6.out⟩
  · have k1 : (100 : Int) < (s.size : Int) := by omega
    clear hl hs h100
    go_enter Tryz.func7, Tryz.ntmps7
    go_wp2_with (first
      | (go_at_call 15; (with_reducible refine (HX0.out _ HB0.out).mono ?_); rintro e w1 ⟨z0, m0, c0, z1, m1, c1, z2, m2, c2, code, at1, rfl, hcode, hb⟩; clear hcode; have hn := one_new w1 (.cells #[.slice z0 m0 c0, .slice z1 m1 c1, .slice z2 m2 c2] 35); have HBX := Lib.hid ((HB0.out.trans (hb.mono HB0.out.size)).trans (hn.mono (Nat.le_trans HB0.out.size hb.size))); clear hb hn)
      | (go_at_call 8; (with_reducible refine (HAW.out _ HBY.out).mono ?_); rintro e w3 ⟨rfl, hb⟩; have HBZ := Lib.hid (HBY.out.trans (hb.mono HBY.out.size)); clear hb)
      | (go_at_call 8; (with_reducible refine (HAW.out _ HBX.out).mono ?_); rintro e w2 ⟨rfl, hb⟩; have HBY := Lib.hid (HBX.out.trans (hb.mono HBX.out.size)); clear hb))
    go_ret
    exact ⟨rfl, HBZ.out⟩

end
end Go.Proofs.YtmjnbapkpcfgcaaGreatDoor
