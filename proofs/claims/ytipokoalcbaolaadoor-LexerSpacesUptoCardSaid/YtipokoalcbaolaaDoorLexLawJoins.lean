/- The walk of the law LexerJoins, given the check of the fixed examples, for strings up to a million bytes. -/
import Derived.Test.YtipokoalcbaolaaDoorLexLawMatches
import Derived.Test.YtipokoalcbaolaaDoorLexJoinMath
namespace Go.Proofs.YtipokoalcbaolaaDoor
open Go.RowKit
theorem rtokens_some (s : ByteArray) (w : World) (hs : s.size ≤ 1050000) :
    Calls Tryd.prog 10 #[.string s] w fun e w' => ∃ v n, e = .returned (.tuple #[v, .int .i64 n]) ∧ Below w.heap.size w w' := by
  refine (rtokens_any s w hs).mono fun e w' hh => ?_
  unfold ToksIs at hh
  cases h : toksL (bts s) 0 with
  | error k => rw [h] at hh; obtain ⟨rfl, hb⟩ := hh; exact ⟨_, _, rfl, hb⟩
  | ok ts => rw [h] at hh; obtain ⟨v, rfl, -, hb⟩ := hh; exact ⟨_, _, rfl, hb⟩
theorem rtokens_err (s : ByteArray) (w : World) (hs : s.size ≤ 1050000) (k : Nat) (h : toksL (bts s) 0 = .error k) :
    Calls Tryd.prog 10 #[.string s] w fun e w' => ∃ v, e = .returned (.tuple #[v, .int .i64 (k : Int)]) ∧ Below w.heap.size w w' :=
  (rtokens_bad s k w hs h).mono fun _ _ ⟨h1, h2⟩ => ⟨_, h1, h2⟩
/-- What the law leaves to the check of the fixed examples. -/
def JoinsOut (a b : ByteArray) : Prop := 500 < a.size ∨ 500 < b.size ∨ (∃ k, toksL (bts a) 0 = .error k) ∨ ∃ k, toksL (bts b) 0 = .error k
set_option maxHeartbeats 4000000 in
set_option maxRecDepth 100000 in
theorem joins_out (hA : LexAwake) (a b : ByteArray) (w : World) (ha : a.size ≤ 1050000) (hb : b.size ≤ 1050000) (hl : LexLaid w) (h : JoinsOut a b) :
    Calls Tryd.prog 7 #[.string a, .string b] w fun e w' => e = .returned (.bool true) ∧ Below w.heap.size w w' := by
  unfold LexAwake at hA
  have HA := Lib.hid hA
  have HB := Lib.hid (Below.refl w.heap.size w)
  have HL := Lib.hid hl
  clear hA hl
  by_cases h1 : 500 < a.size
  · have h1' : (500 : Int) < (a.size : Int) := by omega
    have HRA := Lib.hid (fun w => rtokens_some a w ha)
    have HRB := Lib.hid (fun w => rtokens_some b w hb)
    clear h
    go_enter Tryd.func7, Tryd.ntmps7
    go_wp2_with (first
      | (go_at_call 10; (with_reducible refine (HRA.out _).mono ?_); rintro e w2 ⟨v, n, rfl, hb⟩; replace HL := Lib.hid (HL.out.kept hb (Nat.le_refl _)); replace HB := Lib.hid (HB.out.trans (hb.mono HB.out.size)); clear hb)
      | (go_at_call 10; (with_reducible refine (HRB.out _).mono ?_); rintro e w2 ⟨v, n, rfl, hb⟩; replace HL := Lib.hid (HL.out.kept hb (Nat.le_refl _)); replace HB := Lib.hid (HB.out.trans (hb.mono HB.out.size)); clear hb)
      | (go_at_call 8; (with_reducible refine (HA.out _ HL.out).mono ?_); rintro e w2 ⟨rfl, hb⟩; replace HL := Lib.hid (HL.out.kept hb (Nat.le_refl _)); replace HB := Lib.hid (HB.out.trans (hb.mono HB.out.size)); clear hb))
    go_ret
    exact ⟨rfl, HB.out⟩
  · have h1' : ¬ (500 : Int) < (a.size : Int) := by omega
    by_cases h2 : 500 < b.size
    · have h2' : (500 : Int) < (b.size : Int) := by omega
      have HRA := Lib.hid (fun w => rtokens_some a w ha)
      have HRB := Lib.hid (fun w => rtokens_some b w hb)
      clear h
      go_enter Tryd.func7, Tryd.ntmps7
      go_wp2_with (first
        | (go_at_call 10; (with_reducible refine (HRA.out _).mono ?_); rintro e w2 ⟨v, n, rfl, hb⟩; replace HL := Lib.hid (HL.out.kept hb (Nat.le_refl _)); replace HB := Lib.hid (HB.out.trans (hb.mono HB.out.size)); clear hb)
        | (go_at_call 10; (with_reducible refine (HRB.out _).mono ?_); rintro e w2 ⟨v, n, rfl, hb⟩; replace HL := Lib.hid (HL.out.kept hb (Nat.le_refl _)); replace HB := Lib.hid (HB.out.trans (hb.mono HB.out.size)); clear hb)
        | (go_at_call 8; (with_reducible refine (HA.out _ HL.out).mono ?_); rintro e w2 ⟨rfl, hb⟩; replace HL := Lib.hid (HL.out.kept hb (Nat.le_refl _)); replace HB := Lib.hid (HB.out.trans (hb.mono HB.out.size)); clear hb))
      go_ret
      exact ⟨rfl, HB.out⟩
    · have h2' : ¬ (500 : Int) < (b.size : Int) := by omega
      cases ht : toksL (bts a) 0 with
      | error k =>
        have hk : (0 : Int) ≤ (k : Int) := by omega
        have HRA := Lib.hid (fun w => rtokens_err a w ha k ht)
        have HRB := Lib.hid (fun w => rtokens_some b w hb)
        clear h ht
        go_enter Tryd.func7, Tryd.ntmps7
        go_wp2_with (first
          | (go_at_call 10; (with_reducible refine (HRA.out _).mono ?_); rintro e w2 ⟨v, rfl, hb⟩; replace HL := Lib.hid (HL.out.kept hb (Nat.le_refl _)); replace HB := Lib.hid (HB.out.trans (hb.mono HB.out.size)); clear hb)
          | (go_at_call 10; (with_reducible refine (HRB.out _).mono ?_); rintro e w2 ⟨v, n, rfl, hb⟩; replace HL := Lib.hid (HL.out.kept hb (Nat.le_refl _)); replace HB := Lib.hid (HB.out.trans (hb.mono HB.out.size)); clear hb)
          | (go_at_call 8; (with_reducible refine (HA.out _ HL.out).mono ?_); rintro e w2 ⟨rfl, hb⟩; replace HL := Lib.hid (HL.out.kept hb (Nat.le_refl _)); replace HB := Lib.hid (HB.out.trans (hb.mono HB.out.size)); clear hb))
        go_ret
        exact ⟨rfl, HB.out⟩
      | ok ts =>
        obtain ⟨k, hk⟩ : ∃ k, toksL (bts b) 0 = .error k := by
          rcases h with h | h | ⟨k, h⟩ | h
          · exact absurd h h1
          · exact absurd h h2
          · rw [ht] at h; cases h
          · exact h
        have hk0 : (0 : Int) ≤ (k : Int) := by omega
        have HRA := Lib.hid (fun w => rtokens_ok a ts w ha ht)
        have HRB := Lib.hid (fun w => rtokens_err b w hb k hk)
        clear h ht hk
        go_enter Tryd.func7, Tryd.ntmps7
        go_wp2_with (first
          | (go_at_call 10; (with_reducible refine (HRA.out _).mono ?_); rintro e w2 ⟨g, cap, rfl, -, hb⟩; replace HL := Lib.hid (HL.out.kept hb (Nat.le_refl _)); replace HB := Lib.hid (HB.out.trans (hb.mono HB.out.size)); clear hb)
          | (go_at_call 10; (with_reducible refine (HRB.out _).mono ?_); rintro e w2 ⟨v, rfl, hb⟩; replace HL := Lib.hid (HL.out.kept hb (Nat.le_refl _)); replace HB := Lib.hid (HB.out.trans (hb.mono HB.out.size)); clear hb)
          | (go_at_call 8; (with_reducible refine (HA.out _ HL.out).mono ?_); rintro e w2 ⟨rfl, hb⟩; replace HL := Lib.hid (HL.out.kept hb (Nat.le_refl _)); replace HB := Lib.hid (HB.out.trans (hb.mono HB.out.size)); clear hb))
        go_ret
        exact ⟨rfl, HB.out⟩
theorem dropLast_at {x : List Tok} {i : Nat} (h : i + 1 < x.length) : x.dropLast[i]? = x[i]? := by
  rw [List.getElem?_dropLast, if_pos (by omega)]
set_option maxHeartbeats 8000000 in
set_option maxRecDepth 100000 in
theorem joins_main (hA : LexAwake) (a b : ByteArray) (w : World) (ha : a.size ≤ 500) (hb : b.size ≤ 500) (hl : LexLaid w) (x y : List Tok) (hx : toksL (bts a) 0 = .ok x) (hy : toksL (bts b) 0 = .ok y) :
    Calls Tryd.prog 7 #[.string a, .string b] w fun e w' => e = .returned (.bool true) ∧ Below w.heap.size w w' := by
  unfold LexAwake at hA
  have HA := Lib.hid hA
  have HB := Lib.hid (Below.refl w.heap.size w)
  have HL := Lib.hid hl
  have h1' : ¬ (500 : Int) < (a.size : Int) := by omega
  have h2' : ¬ (500 : Int) < (b.size : Int) := by omega
  have hj := toks_join hx hy
  rw [bts_length] at hj
  have k1 : ∀ w, (Op.stringOp .add a ⟨#[10]⟩).run Tryd.prog w = .ok (.string (a ++ ⟨#[10]⟩)) w := fun w => run_string_add_sum w _ _ (by have e1 : (⟨#[10]⟩ : ByteArray).size = 1 := rfl; omega)
  have k2 : ∀ w, (Op.stringOp .add (a ++ ⟨#[10]⟩) b).run Tryd.prog w = .ok (.string (a ++ ⟨#[10]⟩ ++ b)) w := fun w => run_string_add_sum w _ _ (by have e1 : (⟨#[10]⟩ : ByteArray).size = 1 := rfl; rw [ByteArray.size_append]; omega)
  have hbt : bts (a ++ ⟨#[10]⟩ ++ b) = bts a ++ 10 :: bts b := by
    rw [bts_append, bts_append, List.append_assoc]; rfl
  have hsz : (a ++ ⟨#[10]⟩ ++ b).size ≤ 1050000 := by
    have e1 : (⟨#[10]⟩ : ByteArray).size = 1 := rfl
    rw [ByteArray.size_append, ByteArray.size_append]; omega
  rw [← hbt] at hj
  generalize a ++ ⟨#[10]⟩ ++ b = ab at k2 hj hsz
  obtain ⟨mx, hmx⟩ : ∃ m, x.length = m := ⟨_, rfl⟩
  obtain ⟨my, hmy⟩ : ∃ m, y.length = m := ⟨_, rfl⟩
  have lx := toksL_len _ _ _ _ (Nat.le_refl _) hx
  have ly := toksL_len _ _ _ _ (Nat.le_refl _) hy
  have px := toksL_ne _ _ 0 x (Nat.le_refl _) (Nat.zero_le _) hx
  have py := toksL_ne _ _ 0 y (Nat.le_refl _) (Nat.zero_le _) hy
  have aty := toks_at _ 0 y (Nat.le_refl _) (Nat.zero_le _) hy
  rw [bts_length] at lx ly aty
  obtain ⟨ts, hts⟩ : ∃ ts, x.dropLast ++ y.map (shT (a.size + 1)) = ts := ⟨_, rfl⟩
  have hml : ts.length = mx - 1 + my := by rw [← hts, List.length_append, List.length_dropLast, List.length_map, hmx, hmy]
  rw [hts] at hj
  obtain ⟨ml, hmle⟩ : ∃ m, mx - 1 + my = m := ⟨_, rfl⟩
  rw [hmle] at hml
  rw [hmx] at lx px
  rw [hmy] at ly py
  have HRA : Hid (∀ w, Calls Tryd.prog 10 #[.string a] w fun e w' => ∃ g cap, e = .returned (.tuple #[.slice (some ⟨g, 0, none⟩) mx cap, .int .i64 (-1)]) ∧ (TokRow g x w' ∧ g < w'.heap.size) ∧ Below w.heap.size w w') := Lib.hid (fun w => by rw [← hmx]; exact rtokens_ok a x w (by omega) hx)
  have HRB : Hid (∀ w, Calls Tryd.prog 10 #[.string b] w fun e w' => ∃ g cap, e = .returned (.tuple #[.slice (some ⟨g, 0, none⟩) my cap, .int .i64 (-1)]) ∧ (TokRow g y w' ∧ g < w'.heap.size) ∧ Below w.heap.size w w') := Lib.hid (fun w => by rw [← hmy]; exact rtokens_ok b y w (by omega) hy)
  have HP : Hid (∀ w, SignsAt w → Calls Tryd.prog 9 #[.string ab] w fun e w' => ∃ g cap, e = .returned (.tuple #[.slice (some ⟨g, 0, none⟩) ml cap, .nilIface]) ∧ (TokRow g ts w' ∧ g < w'.heap.size) ∧ Below w.heap.size w w') := Lib.hid (fun w h => by rw [← hml]; exact ptokens_ok ab ts w hsz h hj)
  have HX := Lib.hid hmx
  have HY := Lib.hid hmy
  have HT := Lib.hid hts
  have HAT := Lib.hid aty
  have n0 : ((ml : Int) != (mx : Int) + (my : Int) - 1) = false := by rw [bne_eq_false_iff_eq]; omega
  clear hA hl hx hy hj hbt hmx hmy hts hml aty
  go_enter Tryd.func7, Tryd.ntmps7
  go_wp2_with (first
    | (go_at_call 10; (with_reducible refine (HRA.out _).mono ?_); rintro e w2 ⟨gx, cx, rfl, hr, hb⟩; have HGX := Lib.hid hr; replace HL := Lib.hid (HL.out.kept hb (Nat.le_refl _)); replace HB := Lib.hid (HB.out.trans (hb.mono HB.out.size)); clear hb hr)
    | (go_at_call 10; (with_reducible refine (HRB.out _).mono ?_); rintro e w3 ⟨gy, cy, rfl, hr, hb⟩; have HGY := Lib.hid hr; replace HGX := Lib.hid (And.intro (HGX.out.1.kept hb HGX.out.2) (Nat.lt_of_lt_of_le HGX.out.2 hb.size)); replace HL := Lib.hid (HL.out.kept hb (Nat.le_refl _)); replace HB := Lib.hid (HB.out.trans (hb.mono HB.out.size)); clear hb hr)
    | (go_at_call 8; (with_reducible refine (HA.out _ HL.out).mono ?_); rintro e w4 ⟨rfl, hb⟩; replace HGX := Lib.hid (And.intro (HGX.out.1.kept hb HGX.out.2) (Nat.lt_of_lt_of_le HGX.out.2 hb.size)); replace HGY := Lib.hid (And.intro (HGY.out.1.kept hb HGY.out.2) (Nat.lt_of_lt_of_le HGY.out.2 hb.size)); replace HL := Lib.hid (HL.out.kept hb (Nat.le_refl _)); replace HB := Lib.hid (HB.out.trans (hb.mono HB.out.size)); clear hb)
    | (go_at_call 9; (with_reducible refine (HP.out _ HL.out.signs).mono ?_); rintro e w5 ⟨gl, cl, rfl, hr, hb⟩; have HGL := Lib.hid hr; replace HGX := Lib.hid (And.intro (HGX.out.1.kept hb HGX.out.2) (Nat.lt_of_lt_of_le HGX.out.2 hb.size)); replace HGY := Lib.hid (And.intro (HGY.out.1.kept hb HGY.out.2) (Nat.lt_of_lt_of_le HGY.out.2 hb.size)); replace HB := Lib.hid (HB.out.trans (hb.mono HB.out.size)); clear hb hr))
  clear k1 k2 n0
  go_loopw [11, 12] (fun c _ wx => ∃ (i n : Nat), i ≤ ml ∧ c = .int .i64 i ∧ wx = w5.drewN n) (fun c _ _ => ml - (intOf c).toNat)
  case atStart => exact ⟨0, 0, Nat.zero_le _, rfl, rfl⟩
  case round =>
    obtain ⟨i, n, hi, rfl, rfl⟩ := hrel
    have v0 : IntKind.i64.wrap ((mx : Int) - 1) = (mx : Int) - 1 := IntWalk.i64_in _ (by omega)
    by_cases hlt : i < ml
    · have hlt' : (i : Int) < (ml : Int) := by omega
      by_cases hx1 : i + 1 < mx
      · obtain ⟨t, ht⟩ : ∃ t, x[i]? = some t := ⟨x[i]'(by rw [HX.out]; omega), List.getElem?_eq_getElem _⟩
        have htl : ts[i]? = some t := by
          rw [← HT.out, List.getElem?_append_left (by rw [List.length_dropLast, HX.out]; omega), dropLast_at (by rw [HX.out]; exact hx1)]; exact ht
        obtain ⟨c0, c1, c2, c3, c4, c5, c6⟩ := HGL.out.1 i t htl
        obtain ⟨d0, d1, d2, d3, d4, d5, d6⟩ := HGX.out.1 i t ht
        clear ht htl
        generalize (t.kind : Int) = tk at c0 d0
        generalize (t.at_ : Int) = ta at c1 d1
        generalize strOf t.text = tt at c2 d2
        generalize setW (inRs t.rs) 0 = t0 at c3 d3
        generalize setW (inRs t.rs) 1 = t1 at c4 d4
        generalize setW (inRs t.rs) 2 = t2 at c5 d5
        generalize setW (inRs t.rs) 3 = t3 at c6 d6
        have q1 := neq_rTok tk ta t0 t1 t2 t3 tk ta t0 t1 t2 t3 tt tt
        have q2 := gt_rTok
        have g1 : (i : Int) < (mx : Int) - 1 := by omega
        have g2 : (i : Int) < (mx : Int) := by omega
        have g3 : decide ((0 : Int) ≤ (i : Int) - (mx : Int) + 1) = false := by rw [decide_eq_false_iff_not]; omega
        go_wp2
        go_quiet (fail)
        go_wp2
        go_quiet (fail)
        go_wp2
        go_roundw
        case rel => exact ⟨i + 1, _, by omega, by go_num, rfl⟩
        case measure => simp [intOf]; omega
      · obtain ⟨j, hj⟩ : ∃ j, i - (mx - 1) = j := ⟨_, rfl⟩
        have hjm : j < my := by omega
        obtain ⟨t, ht⟩ : ∃ t, y[j]? = some t := ⟨y[j]'(by rw [HY.out]; omega), List.getElem?_eq_getElem _⟩
        have htl : ts[i]? = some (shT (a.size + 1) t) := by
          rw [← HT.out, List.getElem?_append_right (by rw [List.length_dropLast, HX.out]; omega), List.length_dropLast, HX.out, hj, List.getElem?_map, ht]; rfl
        have hat := HAT.out t (List.mem_of_getElem? ht)
        obtain ⟨c0, c1, c2, -⟩ := HGL.out.1 i _ htl
        obtain ⟨d0, d1, d2, -⟩ := HGY.out.1 j t ht
        have hsh : (((shT (a.size + 1) t).at_ : Nat) : Int) = (t.at_ : Int) + (a.size : Int) + 1 := by show ((t.at_ + (a.size + 1) : Nat) : Int) = _; omega
        have hsk : (((shT (a.size + 1) t).kind : Nat) : Int) = (t.kind : Int) := rfl
        have hst : strOf (shT (a.size + 1) t).text = strOf t.text := rfl
        rw [hsh] at c1
        rw [hsk] at c0
        rw [hst] at c2
        have v1 : IntKind.i64.wrap ((t.at_ : Int) + (a.size : Int)) = (t.at_ : Int) + (a.size : Int) := IntWalk.i64_in _ (by omega)
        have v2 : IntKind.i64.wrap ((t.at_ : Int) + (a.size : Int) + 1) = (t.at_ : Int) + (a.size : Int) + 1 := IntWalk.i64_in _ (by omega)
        clear ht htl hsh hsk hst hat
        generalize (t.kind : Int) = tk at c0 d0
        generalize (t.at_ : Int) = ta at c1 d1 v1 v2
        generalize strOf t.text = tt at c2 d2
        have g1 : decide ((i : Int) < (mx : Int) - 1) = false := by rw [decide_eq_false_iff_not]; omega
        have g3 : (i : Int) - (mx : Int) + 1 = (j : Int) := by omega
        have g4 : (0 : Int) ≤ (j : Int) := by omega
        have g5 : (j : Int) < (my : Int) := by omega
        clear hj
        go_wp2
        go_quiet (fail)
        go_wp2
        go_quiet (fail)
        go_wp2
        go_roundw
        case rel => exact ⟨i + 1, _, by omega, by go_num, rfl⟩
        case measure => simp [intOf]; omega
    · have hlt' : ¬ (i : Int) < (ml : Int) := by omega
      go_wp2
      go_ret
      exact ⟨rfl, below_drewN HB.out⟩
theorem joins_any (hA : LexAwake) (a b : ByteArray) (w : World) (ha : a.size ≤ 1050000) (hb : b.size ≤ 1050000) (hl : LexLaid w) :
    Calls Tryd.prog 7 #[.string a, .string b] w fun e w' => e = .returned (.bool true) ∧ Below w.heap.size w w' := by
  by_cases h : JoinsOut a b
  · exact joins_out hA a b w ha hb hl h
  · cases hx : toksL (bts a) 0 with
    | error k => exact absurd (Or.inr (Or.inr (Or.inl ⟨k, hx⟩))) h
    | ok x =>
      cases hy : toksL (bts b) 0 with
      | error k => exact absurd (Or.inr (Or.inr (Or.inr ⟨k, hy⟩))) h
      | ok y => exact joins_main hA a b w (Nat.le_of_not_lt fun e => h (Or.inl e)) (Nat.le_of_not_lt fun e => h (Or.inr (Or.inl e))) hl x y hx hy
end Go.Proofs.YtipokoalcbaolaaDoor
