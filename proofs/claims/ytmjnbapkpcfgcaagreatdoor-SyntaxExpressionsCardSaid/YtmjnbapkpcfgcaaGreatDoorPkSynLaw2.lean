/- SyntaxExpressions. -/
import Derived.Test.YtmjnbapkpcfgcaaGreatDoorPkSynLawC
namespace Go.Proofs.YtmjnbapkpcfgcaaGreatDoor
section
open Go.RowKit
/-- The rows of a file of the program. -/
def PRw (W : World) (rv nv cv : Value) (rs : List (List Nat × Nat × Int)) (f : MF) : Prop := ∃ base qs, NRow base nv f.nodes qs W ∧ W.ownsRow base 58 2 cv f.calls.length (namesC f.calls) ∧ W.ownsRow base 49 3 rv rs.length (defsC rs)
theorem PRw.below {W W' : World} {rv nv cv : Value} {rs : List (List Nat × Nat × Int)} {f : MF} (h : PRw W rv nv cv rs f) (hb : Below W.heap.size W W') : PRw W' rv nv cv rs f := by
  obtain ⟨base, qs, h1, h2, h3⟩ := h
  exact ⟨base, qs, h1.grown hb, ownsRow_grown h2 hb, ownsRow_grown h3 hb⟩
theorem PRw.put {W : World} {rv nv cv : Value} {rs : List (List Nat × Nat × Int)} {f : MF} (h : PRw W rv nv cv rs f) {b : Nat} {cs : Array Value} (hB : Bl W b 27 cs) (o : Nat) (u : Value) : PRw (W.setCell ⟨b, o, none⟩ u) rv nv cv rs f := by
  obtain ⟨base, qs, h1, h2, h3⟩ := h
  have st : ∀ {base : Nat} {T : TypeId} {sz m : Nat} {v : Value} {xs : List Value}, W.ownsRow base T sz v m xs → T ≠ 27 → (W.setCell ⟨b, o, none⟩ u).ownsRow base T sz v m xs := fun h ht => ownsRow_setCell_other h (a := ⟨b, o, none⟩) (own_ne h hB ht) _
  exact ⟨base, qs, ⟨h1.1, st h1.2.1 (by decide), fun j m q a b => st (h1.2.2 j m q a b) (by decide)⟩, st h2 (by decide), st h3 (by decide)⟩
theorem PRw.file {W : World} {rv nv cv : Value} {rs : List (List Nat × Nat × Int)} {f : MF} (h : PRw W rv nv cv rs f) : FileIn W rv nv cv rs f := by
  obtain ⟨base, qs, h1, h2, h3⟩ := h
  exact FileIn.own h1 h2 h3
theorem parse_rows {w w' : World} {e : Ending} {rs : List (List Nat × Nat × Int)} {f : MF} (h : ParseIs (.ok rs f) w e w') : ∃ va vc na nc ca cc, e = .returned (.tuple #[.agg #[.slice va rs.length vc, .slice na f.nodes.length nc, .slice ca f.calls.length cc], .nilIface]) ∧ PRw w' (.slice va rs.length vc) (.slice na f.nodes.length nc) (.slice ca f.calls.length cc) rs f ∧ Below w.heap.size w w' := by
  obtain ⟨rv, nv, cv, qs, rfl, h1, h2, h3, h4⟩ := h
  obtain ⟨va, vc, rfl⟩ := own_slice' h3
  obtain ⟨na, nc, rfl⟩ := own_slice' h1.2.1
  obtain ⟨ca, cc, rfl⟩ := own_slice' h2
  exact ⟨va, vc, na, nc, ca, cc, rfl, ⟨_, qs, h1, h2, h3⟩, h4⟩
set_option maxHeartbeats 8000000 in
set_option maxRecDepth 100000 in
theorem law8_expressions (s : ByteArray) (w : World) (hl : LexLaid w) : Calls Tryz.prog 4 #[.string s] w fun e w' => e = .returned (.bool true) ∧ Below w.heap.size w w' := by
  have HAW := Lib.hid fun (W : World) (hb : Below w.heap.size w W) => awake8_any W (hl.kept hb (Nat.le_refl _))
  have hb0 := Below.refl w.heap.size w
  have HB0 := Lib.hid hb0
  by_cases hs : s.size ≤ 1000
  · have k1 : ¬ (1000 : Int) < (s.size : Int) := by omega
    cases hO : rexL (bts s) with
    | ok rs f =>
      have HBD := Lib.hid (rex_bounds (by omega) hO)
      have HP := Lib.hid fun (W : World) (hb : Below w.heap.size w W) => (pExpression_any s W (hl.2.kept hb (Nat.le_refl _)) (by omega)).mono fun e w' h => parse_rows (by
        rw [exFL_eq, hO] at h
        exact h)
      have HQ := Lib.hid fun (W : World) (_ : Below w.heap.size w W) => (qExpression_any s W (by omega)).mono fun e w' h => fin_ok' (by
        rw [hO] at h
        exact h)
      obtain ⟨kd0, hdef⟩ := ex_def hO
      have e3 : (⟨#[88, 60, 45]⟩ : ByteArray).size = 3 := rfl
      have hsz : (⟨#[88, 60, 45]⟩ ++ s : ByteArray).size ≤ 1050000 := by rw [ByteArray.size_append]; omega
      have hbt : bts (⟨#[88, 60, 45]⟩ ++ s) = 88 :: 60 :: 45 :: bts s := by rw [bts_append]; rfl
      have s1 : ∀ w, (Op.stringOp .add ⟨#[88, 60, 45]⟩ s).run Tryz.prog w = .ok (.string (⟨#[88, 60, 45]⟩ ++ s)) w := fun w => run_string_add_sum w _ _ (by omega)
      have HR := Lib.hid fun (W : World) (hb : Below w.heap.size w W) => (pParse_any (⟨#[88, 60, 45]⟩ ++ s) W (hl.2.kept hb (Nat.le_refl _)) hsz).mono fun e w' h => (show ∃ vg vgc ng ngc cg cgc, e = .returned (.tuple #[.agg #[.slice vg 1 vgc, .slice ng f.nodes.length ngc, .slice cg (mvF 3 f).calls.length cgc], .nilIface]) ∧ PRw w' (.slice vg 1 vgc) (.slice ng f.nodes.length ngc) (.slice cg (mvF 3 f).calls.length cgc) [([88], 0, kd0)] (mvF 3 f) ∧ Below W.heap.size W w' from parse_rows (rs := [([88], 0, kd0)]) (f := mvF 3 f) (by
        rw [fileL_eq, hbt, hdef] at h
        exact h))
      obtain ⟨sx, hsx⟩ : ∃ y, (⟨#[88, 60, 45]⟩ ++ s : ByteArray) = y := ⟨_, rfl⟩
      rw [hsx] at HR s1
      clear hO hl hs hb0 hdef hsz hbt e3 hsx
      go_enter Tryz.func4, Tryz.ntmps4
      go_upto_region 8 with (first
        | (go_at_call 8; (with_reducible refine (HAW.out _ HB0.out).mono ?_); rintro e w1 ⟨rfl, hb⟩; have HB1 := Lib.hid (HB0.out.trans (hb.mono HB0.out.size)); clear hb)
        | (go_at_call 14; (with_reducible refine (HP.out _ HB1.out).mono ?_); rintro e w2 ⟨va, vc, na, nc, ca, cc, rfl, hG, hb⟩; have hn := one_new w2 (.cells #[.slice va rs.length vc, .slice na f.nodes.length nc, .slice ca f.calls.length cc] 27); have HG2 := Lib.hid (hG.below hn); have HF2 := Lib.hid (Bl.new w2 27 #[.slice va rs.length vc, .slice na f.nodes.length nc, .slice ca f.calls.length cc]); have HB2 := Lib.hid ((HB1.out.trans (hb.mono HB1.out.size)).trans (hn.mono (Nat.le_trans HB1.out.size hb.size))); clear hG hb hn)
        | (go_at_call 15; (with_reducible refine (HQ.out _ HB2.out).mono ?_); rintro e w3 ⟨vb, vbc, nb, nbc, cb, cbc, rfl, hG, hb⟩; have hn := one_new w3 (.cells #[.slice vb rs.length vbc, .slice nb f.nodes.length nbc, .slice cb f.calls.length cbc] 35); have hbn := hb.trans (hn.mono hb.size); have HH3 := Lib.hid (hG.below hn); have HG3 := Lib.hid (HG2.out.below hbn); have HF3 := Lib.hid (HF2.out.below hbn); have HE3 := Lib.hid (Bl.new w3 35 #[.slice vb rs.length vbc, .slice nb f.nodes.length nbc, .slice cb f.calls.length cbc]); have HB3 := Lib.hid (HB2.out.trans (hbn.mono HB2.out.size)); clear hG hb hn hbn)
        | (go_at_call 9; (with_reducible refine (HR.out _ HB3.out).mono ?_); rintro e w4 ⟨vg, vgc, ng, ngc, cg, cgc, rfl, hG, hb⟩; have hn := one_new w4 (.cells #[.slice vg 1 vgc, .slice ng f.nodes.length ngc, .slice cg (mvF 3 f).calls.length cgc] 27); have HS34 := Lib.hid hb.size; have hbn := hb.trans (hn.mono hb.size); have HI4 := Lib.hid (hG.below hn); have HH4 := Lib.hid (HH3.out.below hbn); have HG4 := Lib.hid (HG3.out.below hbn); have HF4 := Lib.hid (HF3.out.below hbn); have HE4 := Lib.hid (HE3.out.below hbn); have HD4 := Lib.hid (Bl.new w4 27 #[.slice vg 1 vgc, .slice ng f.nodes.length ngc, .slice cg (mvF 3 f).calls.length cgc]); have HB4 := Lib.hid (HB3.out.trans (hbn.mono HB3.out.size)); clear hG hb hn hbn))
      obtain ⟨W4, hW4⟩ : ∃ W4, w4.alloc (.cells #[.slice vg 1 vgc, .slice ng f.nodes.length ngc, .slice cg (mvF 3 f).calls.length cgc] 27) = W4 := ⟨_, rfl⟩
      obtain ⟨F1, hF1⟩ : ∃ F1, w2.heap.size = F1 := ⟨_, rfl⟩
      obtain ⟨F2, hF2⟩ : ∃ F2, w3.heap.size = F2 := ⟨_, rfl⟩
      obtain ⟨F3, hF3⟩ : ∃ F3, w4.heap.size = F3 := ⟨_, rfl⟩
      rw [hW4] at HI4 HH4 HG4 HF4 HE4 HD4 HB4
      rw [hF1] at HF4
      rw [hF2] at HE4
      rw [hF3] at HD4
      rw [hW4, hF1, hF2, hF3]
      have hF13 : F1 ≠ F3 := by have h1 := HF3.out.lt; have h2 := HS34.out; omega
      have HX3 : Hid (w.heap.size ≤ F3) := Lib.hid (by have h1 := HB3.out.size; have h2 := HS34.out; omega)
      clear hW4 hF1 hF2 hF3 HG2 HF2 HB2 HB1 HG3 HF3 HE3 HB3 HH3
      have f0 := HF4.out.cell (o := 0) (u := .slice va rs.length vc) rfl
      have f1 := HF4.out.cell (o := 1) (u := .slice na f.nodes.length nc) rfl
      have f2 := HF4.out.cell (o := 2) (u := .slice ca f.calls.length cc) rfl
      have g0 := HE4.out.cell (o := 0) (u := .slice vb rs.length vbc) rfl
      have g1 := HE4.out.cell (o := 1) (u := .slice nb f.nodes.length nbc) rfl
      have g2 := HE4.out.cell (o := 2) (u := .slice cb f.calls.length cbc) rfl
      have i0 := HD4.out.cell (o := 0) (u := .slice vg 1 vgc) rfl
      have i1 := HD4.out.cell (o := 1) (u := .slice ng f.nodes.length ngc) rfl
      have i2 := HD4.out.cell (o := 2) (u := .slice cg (mvF 3 f).calls.length cgc) rfl
      have fl := HF4.out.lt
      have gl := HE4.out.lt
      have il := HD4.out.lt
      have HBK := Lib.hid (fun (W : World) (hW : Below W4.heap.size W4 W) => (back8_any _ _ _ rs f W (HG4.out.file.below hW) HBD.out.1 HBD.out.2).mono fun e w' k => back_same (HG4.out.file.below hW) k)
      go_region_with (first
        | (go_at_call 12; (refine (HBK.out _ ?_).mono ?_); (· repeat (first | exact Below.refl _ _ | refine Below.drew ?_)); rintro e w5 ⟨vd, vdc, ce, cec, rfl, hF5, hb⟩; have hb5 : Below W4.heap.size W4 w5 := Below.trans (by repeat (first | exact Below.refl _ _ | refine Below.drew ?_)) (hb.mono (by simp)); have HH5 := Lib.hid (HH4.out.below hb5); have HI5 := Lib.hid (HI4.out.below hb5); have HG5 := Lib.hid (HG4.out.below hb5); have HE5 := Lib.hid (HE4.out.below hb5); have HFF5 := Lib.hid (HF4.out.below hb5); have HD5 := Lib.hid (HD4.out.below hb5); have HK5 := Lib.hid hF5; have HB5 := Lib.hid (HB4.out.trans (hb5.mono HB4.out.size)); clear f0 f1 f2 fl i0 i1 i2 il gl; have j0 := HE5.out.cell (o := 0) (u := .slice vb rs.length vbc) rfl; have j1 := HE5.out.cell (o := 1) (u := .slice nb f.nodes.length nbc) rfl; have j2 := HE5.out.cell (o := 2) (u := .slice cb f.calls.length cbc) rfl; have gl5 := HE5.out.lt; clear hb hb5 hF5)
        | (go_at_call 11; (refine (qsame_true _ _ _ _ _ _ _ _ _ HK5.out HH5.out).mono ?_); rintro e w6 ⟨rfl, hb⟩; have HI6 := Lib.hid (HI5.out.below hb); have HG6 := Lib.hid (HG5.out.below hb); have HFF6 := Lib.hid (HFF5.out.below hb); have HD6 := Lib.hid (HD5.out.below hb); have HB6 := Lib.hid (HB5.out.trans (hb.mono HB5.out.size)); have f6 := HFF6.out.cell (o := 0) (u := .slice va rs.length vc) rfl; have f7 := HFF6.out.cell (o := 1) (u := .slice na f.nodes.length nc) rfl; have f8 := HFF6.out.cell (o := 2) (u := .slice ca f.calls.length cc) rfl; have i6 := HD6.out.cell (o := 0) (u := .slice vg 1 vgc) rfl; have i7 := HD6.out.cell (o := 1) (u := .slice ng f.nodes.length ngc) rfl; have i8 := HD6.out.cell (o := 2) (u := .slice cg (mvF 3 f).calls.length cgc) rfl; have fl6 := HFF6.out.lt; have il6 := HD6.out.lt; clear hb))
      all_goals
        have x62 := HD6.out.free 2
        have x60 := HD6.out.free 0
        go_upto_region 12 with fail
        have hd1 := HD6.out.put (i := 2) (.slice ca f.calls.length cc)
        have hf1 := HFF6.out.other (o := 2) hF13 (.slice ca f.calls.length cc)
        have hg1 := HG6.out.put HD6.out 2 (.slice ca f.calls.length cc)
        have hi1 := HI6.out.put HD6.out 2 (.slice ca f.calls.length cc)
        have hd2 := hd1.put (i := 0) (.slice va rs.length vc)
        have hf2 := hf1.other (o := 0) hF13 (.slice va rs.length vc)
        have hg2 := hg1.put hd1 0 (.slice va rs.length vc)
        have hi2 := hi1.put hd1 0 (.slice va rs.length vc)
        have hb2 := (HB6.out.setCell (p := ⟨F3, 2, none⟩) HX3.out (.slice ca f.calls.length cc)).setCell (p := ⟨F3, 0, none⟩) HX3.out (.slice va rs.length vc)
        obtain ⟨W7, hW7⟩ : ∃ W7, (w6.setCell ⟨F3, 2, none⟩ (.slice ca f.calls.length cc)).setCell ⟨F3, 0, none⟩ (.slice va rs.length vc) = W7 := ⟨_, rfl⟩
        rw [hW7] at hd2 hf2 hg2 hi2 hb2
        rw [hW7]
        have HFX : Hid (FileIn W7 (.slice va rs.length vc) (.slice ng f.nodes.length ngc) (.slice ca f.calls.length cc) rs f) := Lib.hid ⟨hg2.file.1, hg2.file.2.1, hi2.file.2.2.1, hg2.file.2.2.2⟩
        have HGX := Lib.hid hg2.file
        have HB7 := Lib.hid hb2
        clear f6 f7 f8 i6 i7 i8 fl6 il6 hW7 x62 x60
        have f6 := hf2.cell (o := 0) (u := .slice va rs.length vc) rfl
        have f7 := hf2.cell (o := 1) (u := .slice na f.nodes.length nc) rfl
        have f8 := hf2.cell (o := 2) (u := .slice ca f.calls.length cc) rfl
        have i6 := hd2.cell (o := 0) (u := .slice va rs.length vc) rfl
        have i7 := hd2.cell (o := 1) (u := .slice ng f.nodes.length ngc) rfl
        have i8 := hd2.cell (o := 2) (u := .slice ca f.calls.length cc) rfl
        have fl7 := hf2.lt
        have il7 := hd2.lt
        clear hd1 hf1 hg1 hi1 hd2 hf2 hg2 hi2 hb2
        go_wp2_with (go_at_call 16; (with_reducible refine (sSame_true _ _ _ _ _ _ _ _ _ HGX.out HFX.out).mono ?_); rintro e w8 ⟨rfl, hb⟩; have HB8 := Lib.hid (HB7.out.trans (hb.mono HB7.out.size)); clear hb)
        go_ret
        exact ⟨rfl, HB8.out⟩
    | bad a dp =>
      have HP := Lib.hid fun (W : World) (hb : Below w.heap.size w W) => (pExpression_any s W (hl.2.kept hb (Nat.le_refl _)) (by omega)).mono fun e w' h => parse_bad (by
        rw [exFL_eq, hO] at h
        exact h)
      have HQ := Lib.hid fun (W : World) (_ : Below w.heap.size w W) => (qExpression_any s W (by omega)).mono fun e w' h => fin_bad' (by
        rw [hO] at h
        exact h)
      have HWR := Lib.hid fun (W : World) (hb : Below w.heap.size w W) => wrong8_yes (erC dp) (pos a) W (hl.kept hb (Nat.le_refl _))
      have HBK := Lib.hid (fun (W : World) => (show Calls Tryz.prog 12 #[.agg #[.slice none 0 0, .slice none 0 0, .slice none 0 0]] W (fun e w' => ∃ vd vdc ce cec, e = .returned (.agg #[.slice vd 0 vdc, .slice none 0 0, .slice ce 0 cec]) ∧ FileIn w' (.slice vd 0 vdc) (.slice none 0 0) (.slice ce 0 cec) [] ⟨[], []⟩ ∧ Below W.heap.size W w') from (back8_any _ _ _ [] ⟨[], []⟩ W (nil_file W) (by decide) (by decide)).mono fun e w' k => back_same (nil_file W) k))
      have HSM := Lib.hid (fun (a b c : Value) (W : World) (h : FileIn W a b c [] ⟨[], []⟩) => qsame_true a b c (.slice none 0 0) (.slice none 0 0) (.slice none 0 0) [] ⟨[], []⟩ W h (nil_file W))
      have ek : (erC dp != 0) = true := by cases dp <;> rfl
      obtain ⟨c, hc⟩ : ∃ c, erC dp = c := ⟨_, rfl⟩
      rw [hc] at HQ HP HWR ek
      clear hO hl hs hb0 hc
      go_enter Tryz.func4, Tryz.ntmps4
      go_upto_region 6 with (first
        | (go_at_call 8; (with_reducible refine (HAW.out _ HB0.out).mono ?_); rintro e w1 ⟨rfl, hb⟩; have HB1 := Lib.hid (HB0.out.trans (hb.mono HB0.out.size)); clear hb)
        | (go_at_call 14; (with_reducible refine (HP.out _ HB1.out).mono ?_); rintro e w2 ⟨rfl, hb⟩; have hn := one_new w2 (.cells #[.slice none 0 0, .slice none 0 0, .slice none 0 0] 27); have HF2 := Lib.hid (Bl.new w2 27 #[.slice none 0 0, .slice none 0 0, .slice none 0 0]); have HB2 := Lib.hid ((HB1.out.trans (hb.mono HB1.out.size)).trans (hn.mono (Nat.le_trans HB1.out.size hb.size))); clear hb hn)
        | (go_at_call 15; (with_reducible refine (HQ.out _ HB2.out).mono ?_); rintro e w3 ⟨rfl, hb⟩; have hn := one_new w3 (.cells #[.slice none 0 0, .slice none 0 0, .slice none 0 0] 35); have hbn := hb.trans (hn.mono hb.size); have HF3 := Lib.hid (HF2.out.below hbn); have HB3 := Lib.hid (HB2.out.trans (hbn.mono HB2.out.size)); clear hb hn hbn))
      have f0 := HF3.out.cell (o := 0) (u := .slice none 0 0) rfl
      have f1 := HF3.out.cell (o := 1) (u := .slice none 0 0) rfl
      have f2 := HF3.out.cell (o := 2) (u := .slice none 0 0) rfl
      have fl := HF3.out.lt
      go_wp2_with (first
    | (go_at_call 12; (with_reducible refine (HBK.out _).mono ?_); rintro e w4 ⟨vd, vdc, ce, cec, rfl, hF4, hb⟩; have HK4 := Lib.hid hF4; have HB4 := Lib.hid (HB3.out.trans (hb.mono HB3.out.size)); clear hF4 hb)
    | (go_at_call 11; (with_reducible refine (HSM.out _ _ _ _ HK4.out).mono ?_); rintro e w5 ⟨rfl, hb⟩; have HB5 := Lib.hid (HB4.out.trans (hb.mono HB4.out.size)); clear hb)
    | (go_at_call 13; (with_reducible refine (HWR.out _ HB5.out).mono ?_); rintro e w6 ⟨rfl, hb⟩; have HB6 := Lib.hid (HB5.out.trans (hb.mono HB5.out.size)); clear hb))
      go_ret
      exact ⟨rfl, HB6.out⟩
  · have k1 : (1000 : Int) < (s.size : Int) := by omega
    clear hl hb0
    go_enter Tryz.func4, Tryz.ntmps4
    go_wp2_with (first
      | (go_at_call 8; (with_reducible refine (HAW.out _ HB1.out).mono ?_); rintro e w2 ⟨rfl, hb⟩; have HB2 := Lib.hid (HB1.out.trans (hb.mono HB1.out.size)); clear hb)
      | (go_at_call 8; (with_reducible refine (HAW.out _ HB0.out).mono ?_); rintro e w1 ⟨rfl, hb⟩; have HB1 := Lib.hid (HB0.out.trans (hb.mono HB0.out.size)); clear hb))
    go_ret
    exact ⟨rfl, HB2.out⟩
end
end Go.Proofs.YtmjnbapkpcfgcaaGreatDoor
