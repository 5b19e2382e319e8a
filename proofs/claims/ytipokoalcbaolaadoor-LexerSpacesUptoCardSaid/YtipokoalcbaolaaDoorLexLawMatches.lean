/- The walk of the law LexerMatchesReference, given the check of the fixed examples. -/
import Derived.Test.YtipokoalcbaolaaDoorLexLawNext
namespace Go.Proofs.YtipokoalcbaolaaDoor
open Go.RowKit
theorem toksC_at : ∀ (ts : List Tok) (i : Nat) (t : Tok) (j : Nat), ts[i]? = some t → j < 7 → (toksC ts)[i * 7 + j]? = (tokC t)[j]?
  | [], i, t, j, h, _ => by simp at h
  | x :: r, 0, t, j, h, hj => by
    have : x = t := by simpa using h
    subst this
    show (tokC x ++ toksC r)[0 * 7 + j]? = _
    rw [Nat.zero_mul, Nat.zero_add, List.getElem?_append_left (show j < (tokC x).length from hj)]
  | x :: r, i + 1, t, j, h, hj => by
    have h' : r[i]? = some t := by simpa using h
    have ih := toksC_at r i t j h' hj
    show (tokC x ++ toksC r)[(i + 1) * 7 + j]? = _
    rw [List.getElem?_append_right (show (tokC x).length ≤ (i + 1) * 7 + j by show 7 ≤ _; omega), show (i + 1) * 7 + j - (tokC x).length = i * 7 + j by show (i + 1) * 7 + j - 7 = _; omega]
    exact ih
/-- A slice of tokens: its block, and each token's cells in it. -/
def TokRow (g : Nat) (ts : List Tok) (w : World) : Prop := ∀ i t, ts[i]? = some t → w.cell? ⟨g, i * 7, none⟩ = some (.int .i64 (t.kind : Int)) ∧ w.cell? ⟨g, i * 7 + 1, none⟩ = some (.int .i64 (t.at_ : Int)) ∧ w.cell? ⟨g, i * 7 + 2, none⟩ = some (.string (strOf t.text)) ∧ w.cell? ⟨g, i * 7 + 3, none⟩ = some (.int .u64 (setW (inRs t.rs) 0)) ∧ w.cell? ⟨g, i * 7 + 4, none⟩ = some (.int .u64 (setW (inRs t.rs) 1)) ∧ w.cell? ⟨g, i * 7 + 5, none⟩ = some (.int .u64 (setW (inRs t.rs) 2)) ∧ w.cell? ⟨g, i * 7 + 6, none⟩ = some (.int .u64 (setW (inRs t.rs) 3))
theorem TokRow.kept {g n : Nat} {ts : List Tok} {w w' : World} (h : TokRow g ts w) (hb : Below n w w') (hg : g < n) : TokRow g ts w' := fun i t ht => by
  obtain ⟨h0, h1, h2, h3, h4, h5, h6⟩ := h i t ht
  have hc := (bcell hb).1
  exact ⟨by rw [hc _ _ hg]; exact h0, by rw [hc _ _ hg]; exact h1, by rw [hc _ _ hg]; exact h2, by rw [hc _ _ hg]; exact h3, by rw [hc _ _ hg]; exact h4, by rw [hc _ _ hg]; exact h5, by rw [hc _ _ hg]; exact h6⟩
theorem TokRow.of {w : World} {b : Nat} {T : TypeId} {v : Value} {ts : List Tok} (h : w.ownsRow b T 7 v ts.length (toksC ts)) (h0 : 0 < ts.length) : ∃ g cap, v = .slice (some ⟨g, 0, none⟩) ts.length cap ∧ TokRow g ts w ∧ g < w.heap.size := by
  have h2 := h
  rcases h.2 with ⟨-, h1⟩ | ⟨g, cap, cur, rfl, -⟩
  · omega
  · have hc : ∀ (j : Nat) u, (toksC ts)[j]? = some u → w.cell? ⟨g, j, none⟩ = some u := fun j u hu => by
      have := h2.cells rfl j u hu
      rw [Addr.add_lit, Nat.zero_add] at this; exact this
    refine ⟨g, cap, rfl, fun i t ht => ?_, (h2.lt g rfl).2⟩
    have hk : ∀ j u, j < 7 → (tokC t)[j]? = some u → w.cell? ⟨g, i * 7 + j, none⟩ = some u := fun j u hj hu => hc _ u (by rw [toksC_at ts i t j ht hj]; exact hu)
    exact ⟨hk 0 _ (by decide) rfl, hk 1 _ (by decide) rfl, hk 2 _ (by decide) rfl, hk 3 _ (by decide) rfl, hk 4 _ (by decide) rfl, hk 5 _ (by decide) rfl, hk 6 _ (by decide) rfl⟩
theorem toksL_ne : ∀ (n : Nat) (l : List Nat) (p : Nat) (ts : List Tok), l.length - p ≤ n → p ≤ l.length → toksL l p = .ok ts → 0 < ts.length
  | n, l, p, ts, hn, hp, h => by
    rw [toksL] at h
    split at h
    · cases h
    · split at h
      · cases h; simp
      · split at h
        · cases hr : toksL l _ with
          | error k => rw [hr] at h; cases h
          | ok q => rw [hr] at h; cases h; simp
        · cases h; simp
/-- Each token but the last takes a byte or more. -/
theorem toksL_len : ∀ (n : Nat) (l : List Nat) (p : Nat) (ts : List Tok), l.length - p ≤ n → toksL l p = .ok ts → ts.length ≤ n + 1
  | 0, l, p, ts, hn, h => by
    rw [toksL] at h
    split at h
    · cases h
    · split at h
      · cases h; simp
      · split at h
        · omega
        · cases h; simp
  | n + 1, l, p, ts, hn, h => by
    rw [toksL] at h
    split at h
    · cases h
    · split at h
      · cases h; simp
      · split at h
        · rename_i hm
          cases hr : toksL l _ with
          | error k => rw [hr] at h; cases h
          | ok q =>
            rw [hr] at h
            cases h
            have := toksL_len n l _ q (by omega) hr
            rw [List.length_cons]; omega
        · cases h; simp
theorem ptokens_bad (s : ByteArray) (k : Nat) (w : World) (hs : s.size ≤ 1050000) (hS : SignsAt w) (h : toksL (bts s) 0 = .error k) :
    Calls Tryd.prog 9 #[.string s] w fun e w' => e = .returned (.tuple #[.slice none 0 0, .iface 68 (.agg #[.int .i64 1, .int .i64 (k : Int)])]) ∧ Below w.heap.size w w' := by
  have := ptokens_any s w hs hS
  unfold PToksIs at this
  rw [h] at this
  exact this
theorem rtokens_bad (s : ByteArray) (k : Nat) (w : World) (hs : s.size ≤ 1050000) (h : toksL (bts s) 0 = .error k) :
    Calls Tryd.prog 10 #[.string s] w fun e w' => e = .returned (.tuple #[.slice none 0 0, .int .i64 (k : Int)]) ∧ Below w.heap.size w w' := by
  have := rtokens_any s w hs
  unfold ToksIs at this
  rw [h] at this
  exact this
theorem ptokens_ok (s : ByteArray) (ts : List Tok) (w : World) (hs : s.size ≤ 1050000) (hS : SignsAt w) (h : toksL (bts s) 0 = .ok ts) :
    Calls Tryd.prog 9 #[.string s] w fun e w' => ∃ g cap, e = .returned (.tuple #[.slice (some ⟨g, 0, none⟩) ts.length cap, .nilIface]) ∧ (TokRow g ts w' ∧ g < w'.heap.size) ∧ Below w.heap.size w w' := by
  refine (ptokens_any s w hs hS).mono fun e w' hh => ?_
  unfold PToksIs at hh
  rw [h] at hh
  obtain ⟨v, rfl, ho, hb⟩ := hh
  obtain ⟨g, cap, rfl, hr⟩ := TokRow.of ho (toksL_ne _ _ 0 ts (Nat.le_refl _) (Nat.zero_le _) h)
  exact ⟨g, cap, rfl, hr, hb⟩
theorem rtokens_ok (s : ByteArray) (ts : List Tok) (w : World) (hs : s.size ≤ 1050000) (h : toksL (bts s) 0 = .ok ts) :
    Calls Tryd.prog 10 #[.string s] w fun e w' => ∃ g cap, e = .returned (.tuple #[.slice (some ⟨g, 0, none⟩) ts.length cap, .int .i64 (-1)]) ∧ (TokRow g ts w' ∧ g < w'.heap.size) ∧ Below w.heap.size w w' := by
  refine (rtokens_any s w hs).mono fun e w' hh => ?_
  unfold ToksIs at hh
  rw [h] at hh
  obtain ⟨v, rfl, ho, hb⟩ := hh
  obtain ⟨g, cap, rfl, hr⟩ := TokRow.of ho (toksL_ne _ _ 0 ts (Nat.le_refl _) (Nat.zero_le _) h)
  exact ⟨g, cap, rfl, hr, hb⟩
theorem neq_rTok (k p a b c d k' p' a' b' c' d' : Int) (s s' : ByteArray) (w : World) :
    (binOp .neq 36 (.agg #[.int .i64 k, .int .i64 p, .string s, .int .u64 a, .int .u64 b, .int .u64 c, .int .u64 d]) (.agg #[.int .i64 k', .int .i64 p', .string s', .int .u64 a', .int .u64 b', .int .u64 c', .int .u64 d'])).run Tryd.prog w
      = .ok (.bool (!(k == k' && (p == p' && (s.toList == s'.toList && (a == a' && (b == b' && (c == c' && d == d')))))))) w := by
  have h : (Op.equal 36 (.agg #[.int .i64 k, .int .i64 p, .string s, .int .u64 a, .int .u64 b, .int .u64 c, .int .u64 d]) (.agg #[.int .i64 k', .int .i64 p', .string s', .int .u64 a', .int .u64 b', .int .u64 c', .int .u64 d'])).run Tryd.prog w = _ := eqIn_rTok k p a b c d k' p' a' b' c' d' s s' w
  simp [binOp, h]
set_option maxHeartbeats 4000000 in
set_option maxRecDepth 100000 in
theorem lexMatches_any (hA : LexAwake) (s : ByteArray) (w : World) (hz : s.size ≤ maxLen) (hl : LexLaid w) :
    Calls Tryd.prog 3 #[.string s] w fun e w' => e = .returned (.bool true) ∧ Below w.heap.size w w' := by
  unfold LexAwake at hA
  have HA := Lib.hid hA
  have HB := Lib.hid (Below.refl w.heap.size w)
  have HL := Lib.hid hl
  clear hA hl
  unfold maxLen at hz
  by_cases hs : 2000 < s.size
  · have hs' : (2000 : Int) < (s.size : Int) := by omega
    go_enter Tryd.func3, Tryd.ntmps3
    go_wp2_with (go_at_call 8; (with_reducible refine (HA.out _ HL.out).mono ?_); rintro e w2 ⟨rfl, hb⟩; replace HL := Lib.hid (HL.out.kept hb (Nat.le_refl _)); replace HB := Lib.hid (HB.out.trans (hb.mono HB.out.size)); clear hb)
    go_ret
    exact ⟨rfl, HB.out⟩
  · have hs' : ¬ (2000 : Int) < (s.size : Int) := by omega
    have hz1 : s.size ≤ 1050000 := by omega
    cases ht : toksL (bts s) 0 with
    | error k =>
      have HT := Lib.hid ht
      have hk0 : (0 : Int) ≤ (k : Int) := by omega
      clear ht
      go_enter Tryd.func3, Tryd.ntmps3
      go_wp2_with (first
        | (go_at_call 8; (with_reducible refine (HA.out _ HL.out).mono ?_); rintro e w2 ⟨rfl, hb⟩; replace HL := Lib.hid (HL.out.kept hb (Nat.le_refl _)); replace HB := Lib.hid (HB.out.trans (hb.mono HB.out.size)); clear hb)
        | (go_at_call 9; (with_reducible refine (ptokens_bad s k _ hz1 HL.out.signs HT.out).mono ?_); rintro e w3 ⟨rfl, hb⟩; replace HL := Lib.hid (HL.out.kept hb (Nat.le_refl _)); replace HB := Lib.hid (HB.out.trans (hb.mono HB.out.size)); clear hb)
        | (go_at_call 10; (with_reducible refine (rtokens_bad s k _ hz1 HT.out).mono ?_); rintro e w4 ⟨rfl, hb⟩; replace HL := Lib.hid (HL.out.kept hb (Nat.le_refl _)); replace HB := Lib.hid (HB.out.trans (hb.mono HB.out.size)); clear hb)
        | (go_at_call 11; (with_reducible refine (wrong_yes k _ HL.out.handle).mono ?_); rintro e w5 ⟨rfl, hb⟩; replace HB := Lib.hid (HB.out.trans (hb.mono HB.out.size)); clear hb))
      go_ret
      exact ⟨rfl, HB.out⟩
    | ok ts =>
      have HT := Lib.hid ht
      obtain ⟨m, hm⟩ : ∃ m, ts.length = m := ⟨_, rfl⟩
      have HP : Hid (∀ w, SignsAt w → Calls Tryd.prog 9 #[.string s] w fun e w' => ∃ g cap, e = .returned (.tuple #[.slice (some ⟨g, 0, none⟩) m cap, .nilIface]) ∧ (TokRow g ts w' ∧ g < w'.heap.size) ∧ Below w.heap.size w w') := Lib.hid (fun w h => by rw [← hm]; exact ptokens_ok s ts w hz1 h ht)
      have HR : Hid (∀ w, Calls Tryd.prog 10 #[.string s] w fun e w' => ∃ g cap, e = .returned (.tuple #[.slice (some ⟨g, 0, none⟩) m cap, .int .i64 (-1)]) ∧ (TokRow g ts w' ∧ g < w'.heap.size) ∧ Below w.heap.size w w') := Lib.hid (fun w => by rw [← hm]; exact rtokens_ok s ts w hz1 ht)
      have hml := toksL_len _ _ _ _ (Nat.le_refl _) ht
      rw [bts_length, hm] at hml
      have HM := Lib.hid hm
      clear ht hm
      go_enter Tryd.func3, Tryd.ntmps3
      go_wp2_with (first
        | (go_at_call 8; (with_reducible refine (HA.out _ HL.out).mono ?_); rintro e w2 ⟨rfl, hb⟩; replace HL := Lib.hid (HL.out.kept hb (Nat.le_refl _)); replace HB := Lib.hid (HB.out.trans (hb.mono HB.out.size)); clear hb)
        | (go_at_call 9; (with_reducible refine (HP.out _ HL.out.signs).mono ?_); rintro e w3 ⟨g, cap, rfl, hx, hb⟩; have HX := Lib.hid hx; replace HB := Lib.hid (HB.out.trans (hb.mono HB.out.size)); clear hb hx)
        | (go_at_call 10; (with_reducible refine (HR.out _).mono ?_); rintro e w4 ⟨g', cap', rfl, hy, hb⟩; have HY := Lib.hid hy; replace HX := Lib.hid (And.intro (HX.out.1.kept hb HX.out.2) (Nat.lt_of_lt_of_le HX.out.2 hb.size)); replace HB := Lib.hid (HB.out.trans (hb.mono HB.out.size)); clear hb hy))
      go_loopw [7] (fun c wx => ∃ (i n : Nat), i ≤ m ∧ c = .int .i64 i ∧ wx = w4.drewN n) (fun c _ => m - (intOf c).toNat)
      case atStart => exact ⟨0, 0, Nat.zero_le _, rfl, rfl⟩
      case round =>
        obtain ⟨i, n, hi, rfl, rfl⟩ := hrel
        by_cases hlt : i < m
        · have hlt' : (i : Int) < (m : Int) := by omega
          obtain ⟨t, ht⟩ : ∃ t, ts[i]? = some t := ⟨ts[i]'(by rw [HM.out]; exact hlt), List.getElem?_eq_getElem _⟩
          obtain ⟨c0, c1, c2, c3, c4, c5, c6⟩ := HX.out.1 i t ht
          obtain ⟨d0, d1, d2, d3, d4, d5, d6⟩ := HY.out.1 i t ht
          clear ht
          generalize (t.kind : Int) = tk at c0 d0
          generalize (t.at_ : Int) = ta at c1 d1
          generalize strOf t.text = tt at c2 d2
          generalize setW (inRs t.rs) 0 = t0 at c3 d3
          generalize setW (inRs t.rs) 1 = t1 at c4 d4
          generalize setW (inRs t.rs) 2 = t2 at c5 d5
          generalize setW (inRs t.rs) 3 = t3 at c6 d6
          have q1 := neq_rTok tk ta t0 t1 t2 t3 tk ta t0 t1 t2 t3 tt tt
          have q2 := gt_rTok
          have HX2 := HX
          have HY2 := HY
          clear HX HY
          go_wp2
          go_quiet (fail)
          go_wp2
          go_roundw
          case rel => exact ⟨i + 1, n + nq, by omega, by go_num, rfl⟩
          case measure => simp [intOf]; omega
        · have hlt' : ¬ (i : Int) < (m : Int) := by omega
          go_wp2
          go_ret
          exact ⟨rfl, below_drewN HB.out⟩
end Go.Proofs.YtipokoalcbaolaaDoor
