/- The contract of the reference's class: the set of a class, and the index behind it. -/
import Derived.Test.YtipokoalcbaolaaDoorSetRef3
import Derived.Test.YtipokoalcbaolaaDoorEscRRead
import Derived.Test.YtipokoalcbaolaaDoorLexRef1
namespace Go.Proofs.YtipokoalcbaolaaDoor
open Go.RowKit
/-- The value of the set of some ranges. -/
def setV (rs : List (Nat × Nat)) : Value := .agg #[.int .u64 (setW (inRs rs) 0), .int .u64 (setW (inRs rs) 1), .int .u64 (setW (inRs rs) 2), .int .u64 (setW (inRs rs) 3)]
/-- What class returns. -/
def ClsIs (o : Option (List (Nat × Nat) × Nat)) (p : Nat) (w : World) (e : Ending) (w' : World) : Prop :=
  match o with
  | none => e = .returned (.tuple #[.agg #[.int .u64 0, .int .u64 0, .int .u64 0, .int .u64 0], .int .i64 (-1)]) ∧ Below w.heap.size w w'
  | some (rs, m) => e = .returned (.tuple #[setV rs, .int .i64 ((p + m : Nat) : Int)]) ∧ Below w.heap.size w w'
theorem ClsIs.no {o : Option (List (Nat × Nat) × Nat)} {p : Nat} {w w' : World} (h : o = none) (hb : Below w.heap.size w w') :
    ClsIs o p w (.returned (.tuple #[.agg #[.int .u64 0, .int .u64 0, .int .u64 0, .int .u64 0], .int .i64 (-1)])) w' := by
  subst h; exact ⟨rfl, hb⟩
theorem ClsIs.yes {o : Option (List (Nat × Nat) × Nat)} {p m : Nat} {w w' : World} {rs : List (Nat × Nat)} {x : Int} (h : o = some (rs, m)) (hx : x = ((p + m : Nat) : Int)) (hb : Below w.heap.size w w') :
    ClsIs o p w (.returned (.tuple #[.agg #[.int .u64 (setW (inRs rs) 0), .int .u64 (setW (inRs rs) 1), .int .u64 (setW (inRs rs) 2), .int .u64 (setW (inRs rs) 3)], .int .i64 x])) w' := by
  subst h hx; exact ⟨rfl, hb⟩
theorem BAt.drewN {f : Nat → Bool} {B n : Nat} {w : World} (h : BAt f B w) : BAt f B (w.drewN n) := fun j hj => by simpa using h j hj
theorem BAt.congr {f g : Nat → Bool} {B : Nat} {w : World} (h : BAt f B w) (e : ∀ i, i < 256 → f i = g i) : BAt g B w := fun j hj => by rw [← e j hj]; exact h j hj
/-- Bytes from lo on, below c, beside those of some ranges. -/
def upR (rs : List (Nat × Nat)) (lo c : Nat) : Nat → Bool := fun i => inRs rs i || decide (lo ≤ i ∧ i < c)
theorem upR_put (rs : List (Nat × Nat)) (lo c : Nat) (h : lo ≤ c) (i : Nat) : ins (upR rs lo c) c i = upR rs lo (c + 1) i := by
  unfold ins upR
  rw [Bool.or_assoc]
  congr 1
  rw [Bool.eq_iff_iff]; simp; omega
theorem upR_end (rs : List (Nat × Nat)) (lo hi c : Nat) (h1 : hi < c) (h2 : lo = c ∨ c = hi + 1) (i : Nat) : upR rs lo c i = inRs (rs ++ [(lo, hi)]) i := by
  rw [inRs_snoc]
  unfold upR
  congr 1
  rw [Bool.eq_iff_iff]; simp; omega
theorem upR_start (rs : List (Nat × Nat)) (lo i : Nat) : inRs rs i = upR rs lo lo i := by
  unfold upR
  have : decide (lo ≤ i ∧ i < lo) = false := by rw [decide_eq_false_iff_not]; omega
  rw [this, Bool.or_false]
set_option maxHeartbeats 2000000 in
set_option maxRecDepth 100000 in
theorem rclass_any (s : ByteArray) (p : Nat) (w : World) (hs : s.size ≤ 1050000) (hp : p ≤ s.size) :
    Calls Tryd.prog 25 #[.string s, .int .i64 (p : Int)] w (ClsIs (clsL ((bts s).drop p)) p w) := by
  have hmk := mk256
  have hs' : s.size ≤ 2000000 := by omega
  go_enter Tryd.func25, Tryd.ntmps25
  go_wp2
  go_loopw [1] (fun c wr => ∃ (k : Nat) (rs : List (Nat × Nat)), p ≤ k ∧ k ≤ s.size ∧ c = .int .i64 k ∧ BAt (inRs rs) (w.heap.size + 1) wr ∧ Below (w.heap.size + 1) (w.alloc (.cells #[.int .u64 0, .int .u64 0, .int .u64 0, .int .u64 0] 34)) wr ∧ w.heap.size + 1 < wr.heap.size ∧ clsL ((bts s).drop p) = (clsL ((bts s).drop k)).map fun x => (rs ++ x.1, (k - p) + x.2)) (fun c _ => s.size - (intOf c).toNat)
  case atStart =>
    refine ⟨p, [], Nat.le_refl _, hp, rfl, ?_, (Below.refl _ _).alloc (by simp) _, by simp, by simp⟩
    intro j hj
    have hf : falses[j]? = some (.bool false) := by unfold falses; simp [hj]
    rw [World.cell?_alloc_at _ _ _ _ (by simp), hf, World.frozen?_alloc_at _ _ _ _ (by simp)]; exact ⟨rfl, rfl⟩
  case round =>
    obtain ⟨k, rs, hpk, hk, rfl, hB, hb, hz, hc⟩ := hrel
    have HC := Lib.hid hc
    clear hc
    have h4 := (Four.new w (.int .u64 0) (.int .u64 0) (.int .u64 0) (.int .u64 0) 34).below hb (Nat.lt_succ_self _)
    have hbw : Below w.heap.size w wr := ((Below.refl _ w).alloc (Nat.le_refl _) _).trans (hb.mono (by omega))
    by_cases hlt : k < s.size
    · have hd := bts_drop s k hlt
      by_cases h93 : s[k].toNat = 93
      · have hr : RowAt wr (.slice (some ⟨w.heap.size + 1, 0, none⟩) 256 256) ((List.range 256).map fun i => .bool (inRs rs i)) :=
          ⟨_, 256, by rw [List.length_map, List.length_range], .inr ⟨_, _, rfl, fun i c hc => by
            rw [List.getElem?_map] at hc
            by_cases hi : i < 256
            · rw [List.getElem?_range hi] at hc; cases hc; simpa using (hB i hi).1
            · rw [List.getElem?_eq_none (by simp; omega)] at hc; cases hc⟩⟩
        have h := Lib.hid (rof_row (inRs rs) _ wr hr)
        have hq : clsL ((bts s).drop p) = some (rs, (k - p) + 1) := by rw [HC.out, hd, h93, clsL_end]; simp
        have HQ := Lib.hid hq
        clear hd hB hr hq
        go_wp2_with fail
        refine h.out.mono ?_
        rintro e w1 ⟨rfl, hb1⟩
        obtain ⟨⟨d0, d1, d2, d3⟩, hfr⟩ := h4.below hb1 (by omega)
        clear h h4
        go_wp2
        refine bodyPost_ret (v := .tuple #[.agg #[.int .u64 (setW (inRs rs) 0), .int .u64 (setW (inRs rs) 1), .int .u64 (setW (inRs rs) 2), .int .u64 (setW (inRs rs) 3)], .int .i64 ((k : Int) + 1)]) (by simp [results, Tryd.results25, go_sem, d0, d1, d2, d3]) rfl (ClsIs.yes HQ.out (by omega) ?_)
        exact ((((hbw.trans (hb1.mono hbw.size)).setCell (Nat.le_refl _) _).setCell (Nat.le_refl _) _).setCell (Nat.le_refl _) _).setCell (Nat.le_refl _) _
      · have b93 := beq_no (d := s[k].toNat) (k := 93) (by omega)
        cases hr : rd (bts s) (k : Int) with
        | none =>
          have hq : clsL ((bts s).drop p) = none := by
            rw [rd_nat, hd] at hr
            rw [HC.out, hd, clsL_bad hr h93]; rfl
          have HQ := Lib.hid hq
          have HD := Lib.hid hr
          obtain ⟨⟨d0, d1, d2, d3⟩, hfr⟩ := h4
          clear hd hr hq hB
          go_wp2_with (go_at_call 26; (with_reducible refine (rread_no s (k : Int) _ hs' HD.out).mono ?_); rintro e w' ⟨rfl, m, rfl⟩)
          refine bodyPost_ret (v := .tuple #[.agg #[.int .u64 0, .int .u64 0, .int .u64 0, .int .u64 0], .int .i64 (-1)]) (by simp [results, Tryd.results25, go_sem, d0, d1, d2, d3]) rfl (ClsIs.no HQ.out ?_)
          exact ((((below_drewN hbw).setCell (Nat.le_refl _) _).setCell (Nat.le_refl _) _).setCell (Nat.le_refl _) _).setCell (Nat.le_refl _) _
        | some x =>
          obtain ⟨lo, n⟩ := x
          obtain ⟨p0, p1, p2, p3⟩ := rd_some hr
          have HD := Lib.hid hr
          have q0 : ¬ (k : Int) + (n : Int) < 0 := by omega
          have hmod : (lo : Int) % 256 = lo := by omega
          have hr1 : rdl (s[k].toNat :: (bts s).drop (k + 1)) = some (lo, n) := by rw [rd_nat, hd] at hr; exact hr
          clear hr h4 hbw
          have hdn : (s[k].toNat :: (bts s).drop (k + 1)).drop n = (bts s).drop (k + n) := by rw [← hd, List.drop_drop]
          by_cases hk2 : k + n < s.size
          · have hd2 := bts_drop s (k + n) hk2
            have g2 : (k : Int) + (n : Int) < (s.size : Int) := by omega
            have t2 : ((k : Int) + (n : Int)).toNat = k + n := by omega
            by_cases h45 : s[k + n].toNat = 45
            · rw [h45] at hd2
              cases hr2 : rd (bts s) ((k : Int) + (n : Int) + 1) with
              | none =>
                have hrt : rdl ((bts s).drop (k + n + 1)) = none := by
                  rw [show (k : Int) + (n : Int) + 1 = ((k + n + 1 : Nat) : Int) by omega, rd_nat] at hr2; exact hr2
                have hq : clsL ((bts s).drop p) = (clsL ((bts s).drop (k + n))).map fun x => ((rs ++ [(lo, lo)]) ++ x.1, (k + n - p) + x.2) := by
                  rw [HC.out, hd, clsL_one hr1 h93 (fun t ht => by rw [hdn, hd2] at ht; rw [← (List.cons.inj ht).2]; exact hrt), hdn, clsL_map]
                  rw [show k - p + n = k + n - p by omega]
                have HQ := Lib.hid hq
                have HE := Lib.hid hr2
                clear hd hd2 hdn hr1 hr2 hrt hq
                go_wp2_with (first
                  | (go_at_call 26; (with_reducible refine (rread_yes s (k : Int) lo n _ hs' HD.out).mono ?_); rintro e w' ⟨rfl, m1, rfl⟩)
                  | (go_at_call 26; (with_reducible refine (rread_no s ((k : Int) + (n : Int) + 1) _ hs' HE.out).mono ?_); rintro e w' ⟨rfl, m2, rfl⟩))
                go_loopw [12] (fun c wr2 => ∃ j : Nat, lo ≤ j ∧ (lo = j ∨ j ≤ lo + 1) ∧ c = .int .i64 j ∧ BAt (upR rs lo j) (w.heap.size + 1) wr2 ∧ Below (w.heap.size + 1) (w.alloc (.cells #[.int .u64 0, .int .u64 0, .int .u64 0, .int .u64 0] 34)) wr2 ∧ w.heap.size + 1 < wr2.heap.size) (fun c _ => lo + 1 - (intOf c).toNat)
                case atStart => exact ⟨lo, Nat.le_refl _, Or.inl rfl, by first | rfl | rw [hmod], hB.drewN.congr (fun i _ => upR_start rs lo i), below_drewN hb, by simpa using hz⟩
                case round =>
                  obtain ⟨j, hj1, hj2, rfl, hB2, hb2, hz2⟩ := hrel
                  by_cases hjl : j ≤ lo
                  · have hc := (hB2 j (by omega)).1
                    have hf := (hB2 j (by omega)).2
                    have hjl' : (j : Int) ≤ (lo : Int) := by omega
                    have j256 : (j : Int) < 256 := by omega
                    go_wp2
                    go_roundw
                    case rel => exact ⟨j + 1, by omega, by omega, by go_num, hB2.put.congr (fun i _ => upR_put rs lo j hj1 i), hb2.setCell (Nat.le_refl _) _, by simpa using hz2⟩
                    case measure => simp [intOf]; omega
                  · have hjl' : ¬ (j : Int) ≤ (lo : Int) := by omega
                    have hB3 := hB2.congr (fun i _ => upR_end rs lo lo j (by omega) (by omega) i)
                    clear hB2
                    go_wp2
                    go_roundw
                    case rel => exact ⟨k + n, rs ++ [(lo, lo)], by omega, by omega, by go_num, hB3, hb2, hz2, HQ.out⟩
                    case measure => simp [intOf]; omega
              | some y =>
                obtain ⟨hi, m⟩ := y
                obtain ⟨r0, r1, r2, r3⟩ := rd_some hr2
                have hrt : rdl ((bts s).drop (k + n + 1)) = some (hi, m) := by
                  rw [show (k : Int) + (n : Int) + 1 = ((k + n + 1 : Nat) : Int) by omega, rd_nat] at hr2; exact hr2
                have hq : clsL ((bts s).drop p) = (clsL ((bts s).drop (k + (n + 1 + m)))).map fun x => ((rs ++ [(lo, hi)]) ++ x.1, (k + (n + 1 + m) - p) + x.2) := by
                  rw [HC.out, hd, clsL_range hr1 h93 (hdn.trans hd2) hrt, ← hd, List.drop_drop, clsL_map]
                  rw [show k - p + (n + 1 + m) = k + (n + 1 + m) - p by omega]
                have HQ := Lib.hid hq
                have HE := Lib.hid hr2
                have hmod2 : (hi : Int) % 256 = hi := by omega
                have q2 : 0 ≤ (k : Int) + (n : Int) + 1 + (m : Int) := by omega
                clear hd hd2 hdn hr1 hr2 hrt hq
                go_wp2_with (first
                  | (go_at_call 26; (with_reducible refine (rread_yes s (k : Int) lo n _ hs' HD.out).mono ?_); rintro e w' ⟨rfl, m1, rfl⟩)
                  | (go_at_call 26; (with_reducible refine (rread_yes s ((k : Int) + (n : Int) + 1) hi m _ hs' HE.out).mono ?_); rintro e w' ⟨rfl, m2, rfl⟩))
                go_loopw [12] (fun c wr2 => ∃ j : Nat, lo ≤ j ∧ (lo = j ∨ j ≤ hi + 1) ∧ c = .int .i64 j ∧ BAt (upR rs lo j) (w.heap.size + 1) wr2 ∧ Below (w.heap.size + 1) (w.alloc (.cells #[.int .u64 0, .int .u64 0, .int .u64 0, .int .u64 0] 34)) wr2 ∧ w.heap.size + 1 < wr2.heap.size) (fun c _ => hi + 1 - (intOf c).toNat)
                case atStart => exact ⟨lo, Nat.le_refl _, Or.inl rfl, by first | rfl | rw [hmod], hB.drewN.congr (fun i _ => upR_start rs lo i), below_drewN hb, by simpa using hz⟩
                case round =>
                  obtain ⟨j, hj1, hj2, rfl, hB2, hb2, hz2⟩ := hrel
                  by_cases hjl : j ≤ hi
                  · have hc := (hB2 j (by omega)).1
                    have hf := (hB2 j (by omega)).2
                    have hjl' : (j : Int) ≤ (hi : Int) := by omega
                    have j256 : (j : Int) < 256 := by omega
                    go_wp2
                    go_roundw
                    case rel => exact ⟨j + 1, by omega, by omega, by go_num, hB2.put.congr (fun i _ => upR_put rs lo j hj1 i), hb2.setCell (Nat.le_refl _) _, by simpa using hz2⟩
                    case measure => simp [intOf]; omega
                  · have hjl' : ¬ (j : Int) ≤ (hi : Int) := by omega
                    have hB3 := hB2.congr (fun i _ => upR_end rs lo hi j (by omega) (by omega) i)
                    clear hB2
                    go_wp2
                    go_roundw
                    case rel => exact ⟨k + (n + 1 + m), rs ++ [(lo, hi)], by omega, by omega, by go_num, hB3, hb2, hz2, HQ.out⟩
                    case measure => simp [intOf]; omega
            · have hq : clsL ((bts s).drop p) = (clsL ((bts s).drop (k + n))).map fun x => ((rs ++ [(lo, lo)]) ++ x.1, (k + n - p) + x.2) := by
                rw [HC.out, hd, clsL_one hr1 h93 (fun t ht => by rw [hdn, hd2] at ht; exact absurd (List.cons.inj ht).1 h45), hdn, clsL_map]
                rw [show k - p + n = k + n - p by omega]
              have HQ := Lib.hid hq
              have b45 := beq_no (d := s[k + n].toNat) (k := 45) (by omega)
              clear hd hd2 hdn hr1 hq
              go_wp2_with (go_at_call 26; (with_reducible refine (rread_yes s (k : Int) lo n _ hs' HD.out).mono ?_); rintro e w' ⟨rfl, m1, rfl⟩)
              go_loopw [12] (fun c wr2 => ∃ j : Nat, lo ≤ j ∧ (lo = j ∨ j ≤ lo + 1) ∧ c = .int .i64 j ∧ BAt (upR rs lo j) (w.heap.size + 1) wr2 ∧ Below (w.heap.size + 1) (w.alloc (.cells #[.int .u64 0, .int .u64 0, .int .u64 0, .int .u64 0] 34)) wr2 ∧ w.heap.size + 1 < wr2.heap.size) (fun c _ => lo + 1 - (intOf c).toNat)
              case atStart => exact ⟨lo, Nat.le_refl _, Or.inl rfl, by first | rfl | rw [hmod], hB.drewN.congr (fun i _ => upR_start rs lo i), below_drewN hb, by simpa using hz⟩
              case round =>
                obtain ⟨j, hj1, hj2, rfl, hB2, hb2, hz2⟩ := hrel
                by_cases hjl : j ≤ lo
                · have hc := (hB2 j (by omega)).1
                  have hf := (hB2 j (by omega)).2
                  have hjl' : (j : Int) ≤ (lo : Int) := by omega
                  have j256 : (j : Int) < 256 := by omega
                  go_wp2
                  go_roundw
                  case rel => exact ⟨j + 1, by omega, by omega, by go_num, hB2.put.congr (fun i _ => upR_put rs lo j hj1 i), hb2.setCell (Nat.le_refl _) _, by simpa using hz2⟩
                  case measure => simp [intOf]; omega
                · have hjl' : ¬ (j : Int) ≤ (lo : Int) := by omega
                  have hB3 := hB2.congr (fun i _ => upR_end rs lo lo j (by omega) (by omega) i)
                  clear hB2
                  go_wp2
                  go_roundw
                  case rel => exact ⟨k + n, rs ++ [(lo, lo)], by omega, by omega, by go_num, hB3, hb2, hz2, HQ.out⟩
                  case measure => simp [intOf]; omega
          · have hq : clsL ((bts s).drop p) = (clsL ((bts s).drop (k + n))).map fun x => ((rs ++ [(lo, lo)]) ++ x.1, (k + n - p) + x.2) := by
              rw [HC.out, hd, clsL_one hr1 h93 (fun t ht => by rw [hdn, List.drop_eq_nil_of_le (by rw [bts_length]; omega)] at ht; cases ht), hdn, clsL_map]
              rw [show k - p + n = k + n - p by omega]
            have HQ := Lib.hid hq
            have g2 : ¬ (k : Int) + (n : Int) < (s.size : Int) := by omega
            clear hd hdn hr1 hq
            go_wp2_with (go_at_call 26; (with_reducible refine (rread_yes s (k : Int) lo n _ hs' HD.out).mono ?_); rintro e w' ⟨rfl, m1, rfl⟩)
            go_loopw [12] (fun c wr2 => ∃ j : Nat, lo ≤ j ∧ (lo = j ∨ j ≤ lo + 1) ∧ c = .int .i64 j ∧ BAt (upR rs lo j) (w.heap.size + 1) wr2 ∧ Below (w.heap.size + 1) (w.alloc (.cells #[.int .u64 0, .int .u64 0, .int .u64 0, .int .u64 0] 34)) wr2 ∧ w.heap.size + 1 < wr2.heap.size) (fun c _ => lo + 1 - (intOf c).toNat)
            case atStart => exact ⟨lo, Nat.le_refl _, Or.inl rfl, by first | rfl | rw [hmod], hB.drewN.congr (fun i _ => upR_start rs lo i), below_drewN hb, by simpa using hz⟩
            case round =>
              obtain ⟨j, hj1, hj2, rfl, hB2, hb2, hz2⟩ := hrel
              by_cases hjl : j ≤ lo
              · have hc := (hB2 j (by omega)).1
                have hf := (hB2 j (by omega)).2
                have hjl' : (j : Int) ≤ (lo : Int) := by omega
                have j256 : (j : Int) < 256 := by omega
                go_wp2
                go_roundw
                case rel => exact ⟨j + 1, by omega, by omega, by go_num, hB2.put.congr (fun i _ => upR_put rs lo j hj1 i), hb2.setCell (Nat.le_refl _) _, by simpa using hz2⟩
                case measure => simp [intOf]; omega
              · have hjl' : ¬ (j : Int) ≤ (lo : Int) := by omega
                have hB3 := hB2.congr (fun i _ => upR_end rs lo lo j (by omega) (by omega) i)
                clear hB2
                go_wp2
                go_roundw
                case rel => exact ⟨k + n, rs ++ [(lo, lo)], by omega, by omega, by go_num, hB3, hb2, hz2, HQ.out⟩
                case measure => simp [intOf]; omega
    · have hq : clsL ((bts s).drop p) = none := by rw [HC.out, List.drop_eq_nil_of_le (by rw [bts_length]; omega), clsL_nil]; rfl
      have HQ := Lib.hid hq
      obtain ⟨⟨d0, d1, d2, d3⟩, hfr⟩ := h4
      have g1 : (s.size : Int) ≤ (k : Int) := by omega
      clear hq hB
      go_wp2
      refine bodyPost_ret (v := .tuple #[.agg #[.int .u64 0, .int .u64 0, .int .u64 0, .int .u64 0], .int .i64 (-1)]) (by simp [results, Tryd.results25, go_sem, d0, d1, d2, d3]) rfl (ClsIs.no HQ.out ?_)
      exact ((((hbw).setCell (Nat.le_refl _) _).setCell (Nat.le_refl _) _).setCell (Nat.le_refl _) _).setCell (Nat.le_refl _) _
end Go.Proofs.YtipokoalcbaolaaDoor
