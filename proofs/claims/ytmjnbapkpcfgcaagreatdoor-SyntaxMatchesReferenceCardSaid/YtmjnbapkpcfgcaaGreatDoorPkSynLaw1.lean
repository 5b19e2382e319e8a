/- SyntaxMatchesReference. -/
import Derived.Test.YtmjnbapkpcfgcaaGreatDoorPkSynLawC
namespace Go.Proofs.YtmjnbapkpcfgcaaGreatDoor
section
open Go.RowKit
set_option maxHeartbeats 8000000 in
set_option maxRecDepth 100000 in
theorem law8_matches (s : ByteArray) (w : World) (hl : LexLaid w) : Calls Tryz.prog 3 #[.string s] w fun e w' => e = .returned (.bool true) ∧ Below w.heap.size w w' := by
  have HAW := Lib.hid fun (W : World) (hb : Below w.heap.size w W) => awake8_any W (hl.kept hb (Nat.le_refl _))
  have hb0 := Below.refl w.heap.size w
  have HB0 := Lib.hid hb0
  by_cases hs : s.size ≤ 1500
  · have k1 : ¬ (1500 : Int) < (s.size : Int) := by omega
    cases hO : rfileL (bts s) with
    | ok rs f =>
      have HBD := Lib.hid (rfile_bounds (by omega) hO)
      have HP := Lib.hid fun (W : World) (hb : Below w.heap.size w W) => (pParse_any s W (hl.2.kept hb (Nat.le_refl _)) (by omega)).mono fun e w' h => parse_ok (by
        rw [fileL_eq, hO] at h
        exact h)
      have HQ := Lib.hid fun (W : World) (_ : Below w.heap.size w W) => (qParse_any s W (by omega)).mono fun e w' h => fin_ok' (by
        rw [hO] at h
        exact h)
      clear hO hl hs hb0
      go_enter Tryz.func3, Tryz.ntmps3
      go_upto_region 7 with (first
        | (go_at_call 8; (with_reducible refine (HAW.out _ HB0.out).mono ?_); rintro e w1 ⟨rfl, hb⟩; have HB1 := Lib.hid (HB0.out.trans (hb.mono HB0.out.size)); clear hb)
        | (go_at_call 9; (with_reducible refine (HP.out _ HB1.out).mono ?_); rintro e w2 ⟨va, vc, na, nc, ca, cc, rfl, hG, hb⟩; have hn := one_new w2 (.cells #[.slice va rs.length vc, .slice na f.nodes.length nc, .slice ca f.calls.length cc] 27); have HG2 := Lib.hid (hG.below hn); have HF2 := Lib.hid (Bl.new w2 27 #[.slice va rs.length vc, .slice na f.nodes.length nc, .slice ca f.calls.length cc]); have HB2 := Lib.hid ((HB1.out.trans (hb.mono HB1.out.size)).trans (hn.mono (Nat.le_trans HB1.out.size hb.size))); clear hG hb hn)
        | (go_at_call 10; (with_reducible refine (HQ.out _ HB2.out).mono ?_); rintro e w3 ⟨vb, vbc, nb, nbc, cb, cbc, rfl, hG, hb⟩; have hn := one_new w3 (.cells #[.slice vb rs.length vbc, .slice nb f.nodes.length nbc, .slice cb f.calls.length cbc] 35); have hbn := hb.trans (hn.mono hb.size); have HH3 := Lib.hid (hG.below hn); have HG3 := Lib.hid (HG2.out.below hbn); have HF3 := Lib.hid (HF2.out.below hbn); have HE3 := Lib.hid (Bl.new w3 35 #[.slice vb rs.length vbc, .slice nb f.nodes.length nbc, .slice cb f.calls.length cbc]); have HB3 := Lib.hid (HB2.out.trans (hbn.mono HB2.out.size)); clear hG hb hn hbn))
      obtain ⟨W3, hW3⟩ : ∃ W3, w3.alloc (.cells #[.slice vb rs.length vbc, .slice nb f.nodes.length nbc, .slice cb f.calls.length cbc] 35) = W3 := ⟨_, rfl⟩
      obtain ⟨F1, hF1⟩ : ∃ F1, w2.heap.size = F1 := ⟨_, rfl⟩
      obtain ⟨F2, hF2⟩ : ∃ F2, w3.heap.size = F2 := ⟨_, rfl⟩
      rw [hW3] at HH3 HG3 HF3 HE3 HB3
      rw [hF1] at HF3
      rw [hF2] at HE3
      rw [hW3, hF1, hF2]
      clear hW3 hF1 hF2 HG2 HF2 HB2 HB1
      have f0 := HF3.out.cell (o := 0) (u := .slice va rs.length vc) rfl
      have f1 := HF3.out.cell (o := 1) (u := .slice na f.nodes.length nc) rfl
      have f2 := HF3.out.cell (o := 2) (u := .slice ca f.calls.length cc) rfl
      have g0 := HE3.out.cell (o := 0) (u := .slice vb rs.length vbc) rfl
      have g1 := HE3.out.cell (o := 1) (u := .slice nb f.nodes.length nbc) rfl
      have g2 := HE3.out.cell (o := 2) (u := .slice cb f.calls.length cbc) rfl
      have fl := HF3.out.lt
      have gl := HE3.out.lt
      have HBK := Lib.hid (fun (W : World) (hW : Below W3.heap.size W3 W) => (back8_any _ _ _ rs f W (HG3.out.below hW) HBD.out.1 HBD.out.2).mono fun e w' k => back_same (HG3.out.below hW) k)
      go_region_with (first
        | (go_at_call 12; (refine (HBK.out _ ?_).mono ?_); (· repeat (first | exact Below.refl _ _ | refine Below.drew ?_)); rintro e w4 ⟨vd, vdc, ce, cec, rfl, hF4, hb⟩; have hb4 : Below W3.heap.size W3 w4 := Below.trans (by repeat (first | exact Below.refl _ _ | refine Below.drew ?_)) (hb.mono (by simp)); have HH4 := Lib.hid (HH3.out.below hb4); have HE4 := Lib.hid (HE3.out.below hb4); have HK4 := Lib.hid hF4; have HB4 := Lib.hid (HB3.out.trans (hb4.mono HB3.out.size)); clear f0 f1 f2 fl; have f5 := HE4.out.cell (o := 0) (u := .slice vb rs.length vbc) rfl; have f6 := HE4.out.cell (o := 1) (u := .slice nb f.nodes.length nbc) rfl; have f7 := HE4.out.cell (o := 2) (u := .slice cb f.calls.length cbc) rfl; have gl4 := HE4.out.lt; clear hb hb4 hF4)
        | (go_at_call 11; (refine (qsame_true _ _ _ _ _ _ _ _ _ HK4.out HH4.out).mono ?_); rintro e w5 ⟨rfl, hb⟩; have HB5 := Lib.hid (HB4.out.trans (hb.mono HB4.out.size)); clear hb))
      all_goals
        go_wp2
        go_ret
        exact ⟨rfl, HB5.out⟩
    | bad a dp =>
      have HP := Lib.hid fun (W : World) (hb : Below w.heap.size w W) => (pParse_any s W (hl.2.kept hb (Nat.le_refl _)) (by omega)).mono fun e w' h => parse_bad (by
        rw [fileL_eq, hO] at h
        exact h)
      have HQ := Lib.hid fun (W : World) (_ : Below w.heap.size w W) => (qParse_any s W (by omega)).mono fun e w' h => fin_bad' (by
        rw [hO] at h
        exact h)
      have HWR := Lib.hid fun (W : World) (hb : Below w.heap.size w W) => wrong8_yes (erC dp) (pos a) W (hl.kept hb (Nat.le_refl _))
      have HBK := Lib.hid (fun (W : World) => (show Calls Tryz.prog 12 #[.agg #[.slice none 0 0, .slice none 0 0, .slice none 0 0]] W (fun e w' => ∃ vd vdc ce cec, e = .returned (.agg #[.slice vd 0 vdc, .slice none 0 0, .slice ce 0 cec]) ∧ FileIn w' (.slice vd 0 vdc) (.slice none 0 0) (.slice ce 0 cec) [] ⟨[], []⟩ ∧ Below W.heap.size W w') from (back8_any _ _ _ [] ⟨[], []⟩ W (nil_file W) (by decide) (by decide)).mono fun e w' k => back_same (nil_file W) k))
      have HSM := Lib.hid (fun (a b c : Value) (W : World) (h : FileIn W a b c [] ⟨[], []⟩) => qsame_true a b c (.slice none 0 0) (.slice none 0 0) (.slice none 0 0) [] ⟨[], []⟩ W h (nil_file W))
      have ek : (erC dp != 0) = true := by cases dp <;> rfl
      obtain ⟨c, hc⟩ : ∃ c, erC dp = c := ⟨_, rfl⟩
      rw [hc] at HQ HP HWR ek
      clear hO hl hs hb0 hc
      go_enter Tryz.func3, Tryz.ntmps3
      go_upto_region 6 with (first
        | (go_at_call 8; (with_reducible refine (HAW.out _ HB0.out).mono ?_); rintro e w1 ⟨rfl, hb⟩; have HB1 := Lib.hid (HB0.out.trans (hb.mono HB0.out.size)); clear hb)
        | (go_at_call 9; (with_reducible refine (HP.out _ HB1.out).mono ?_); rintro e w2 ⟨rfl, hb⟩; have hn := one_new w2 (.cells #[.slice none 0 0, .slice none 0 0, .slice none 0 0] 27); have HF2 := Lib.hid (Bl.new w2 27 #[.slice none 0 0, .slice none 0 0, .slice none 0 0]); have HB2 := Lib.hid ((HB1.out.trans (hb.mono HB1.out.size)).trans (hn.mono (Nat.le_trans HB1.out.size hb.size))); clear hb hn)
        | (go_at_call 10; (with_reducible refine (HQ.out _ HB2.out).mono ?_); rintro e w3 ⟨rfl, hb⟩; have hn := one_new w3 (.cells #[.slice none 0 0, .slice none 0 0, .slice none 0 0] 35); have hbn := hb.trans (hn.mono hb.size); have HF3 := Lib.hid (HF2.out.below hbn); have HB3 := Lib.hid (HB2.out.trans (hbn.mono HB2.out.size)); clear hb hn hbn))
      have f0 := HF3.out.cell (o := 0) (u := .slice none 0 0) rfl
      have f1 := HF3.out.cell (o := 1) (u := .slice none 0 0) rfl
      have f2 := HF3.out.cell (o := 2) (u := .slice none 0 0) rfl
      have fl := HF3.out.lt
      go_wp2_with (first
    | (go_at_call 12; (with_reducible refine (HBK.out _).mono ?_); rintro e w4 ⟨vd, vdc, ce, cec, rfl, hF4, hb⟩; have HK4 := Lib.hid hF4; have HB4 := Lib.hid (HB3.out.trans (hb.mono HB3.out.size)); clear hF4 hb)
    | (go_at_call 11; (with_reducible refine (HSM.out _ _ _ _ HK4.out).mono ?_); rintro e w5 ⟨rfl, hb⟩; have HB5 := Lib.hid (HB4.out.trans (hb.mono HB4.out.size)); clear hb)
    | (go_at_call 13; (with_reducible refine (HWR.out _ HB5.out).mono ?_); rintro e w6 ⟨rfl, hb⟩; have HB6 := Lib.hid (HB5.out.trans (hb.mono HB5.out.size)); clear hb))
      go_ret
      exact ⟨rfl, HB6.out⟩
  · have k1 : (1500 : Int) < (s.size : Int) := by omega
    clear hl hb0
    go_enter Tryz.func3, Tryz.ntmps3
    go_wp2_with (first
      | (go_at_call 8; (with_reducible refine (HAW.out _ HB1.out).mono ?_); rintro e w2 ⟨rfl, hb⟩; have HB2 := Lib.hid (HB1.out.trans (hb.mono HB1.out.size)); clear hb)
      | (go_at_call 8; (with_reducible refine (HAW.out _ HB0.out).mono ?_); rintro e w1 ⟨rfl, hb⟩; have HB1 := Lib.hid (HB0.out.trans (hb.mono HB0.out.size)); clear hb))
    go_ret
    exact ⟨rfl, HB2.out⟩
end
end Go.Proofs.YtmjnbapkpcfgcaaGreatDoor
