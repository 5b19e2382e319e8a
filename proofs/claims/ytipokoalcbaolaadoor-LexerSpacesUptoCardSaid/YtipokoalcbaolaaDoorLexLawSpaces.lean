/- The walk of the law LexerSpaces, given the check of the fixed examples, for strings up to a million bytes. -/
import Derived.Test.YtipokoalcbaolaaDoorLexLawJoins
namespace Go.Proofs.YtipokoalcbaolaaDoor
open Go.RowKit
/-- The five kinds of spacing. -/
def spB : List ByteArray := [⟨#[]⟩, ⟨#[32]⟩, ⟨#[9, 10]⟩, ⟨#[35, 32, 99, 13, 10]⟩, ⟨#[13, 35, 10, 32]⟩]
theorem spB_spc (j : Nat) : Spc (bts (spB.getD j ⟨#[]⟩)) := by
  rcases (by omega : j = 0 ∨ j = 1 ∨ j = 2 ∨ j = 3 ∨ j = 4 ∨ 5 ≤ j) with rfl | rfl | rfl | rfl | rfl | h
  · exact spc_nil
  · exact spc_cons (c := 32) (by decide) spc_nil
  · exact spc_cons (c := 9) (by decide) (spc_cons (c := 10) (by decide) spc_nil)
  · exact spc_com (p := [32, 99, 13, 10]) (m := 2) (q := [13, 10]) rfl rfl (spc_cons (by decide) (spc_cons (by decide) spc_nil))
  · exact spc_cons (c := 13) (by decide) (spc_com (p := [10, 32]) (m := 0) (q := [10, 32]) rfl rfl (spc_cons (by decide) (spc_cons (by decide) spc_nil)))
  · rw [List.getD_eq_getElem?_getD, List.getElem?_eq_none (show spB.length ≤ j from h)]; exact spc_nil
theorem spB_size (j : Nat) : (spB.getD j ⟨#[]⟩).size ≤ 5 := by
  rcases (by omega : j = 0 ∨ j = 1 ∨ j = 2 ∨ j = 3 ∨ j = 4 ∨ 5 ≤ j) with rfl | rfl | rfl | rfl | rfl | h
  · show 0 ≤ 5; omega
  · show 1 ≤ 5; omega
  · show 2 ≤ 5; omega
  · show 5 ≤ 5; omega
  · show 4 ≤ 5; omega
  · rw [List.getD_eq_getElem?_getD, List.getElem?_eq_none (show spB.length ≤ j from h)]; show 0 ≤ 5; omega
set_option maxHeartbeats 4000000 in
set_option maxRecDepth 100000 in
theorem spaces_out (hA : LexAwake) (s : ByteArray) (x y : Int) (w : World) (hs : s.size ≤ 1050000) (hl : LexLaid w) (h : 500 < s.size ∨ ∃ k, toksL (bts s) 0 = .error k) :
    Calls Tryd.prog 6 #[.string s, .int .u8 x, .int .u8 y] w fun e w' => e = .returned (.bool true) ∧ Below w.heap.size w w' := by
  unfold LexAwake at hA
  have HA := Lib.hid hA
  have HB := Lib.hid (Below.refl w.heap.size w)
  have HL := Lib.hid hl
  clear hA hl
  by_cases h1 : 500 < s.size
  · have h1' : (500 : Int) < (s.size : Int) := by omega
    have HRA := Lib.hid (fun w => rtokens_some s w hs)
    clear h
    go_enter Tryd.func6, Tryd.ntmps6
    go_wp2_with (first
      | (go_at_call 10; (with_reducible refine (HRA.out _).mono ?_); rintro e w2 ⟨v, n, rfl, hb⟩; replace HL := Lib.hid (HL.out.kept hb (Nat.le_refl _)); replace HB := Lib.hid (HB.out.trans (hb.mono HB.out.size)); clear hb)
      | (go_at_call 8; (with_reducible refine (HA.out _ HL.out).mono ?_); rintro e w2 ⟨rfl, hb⟩; replace HL := Lib.hid (HL.out.kept hb (Nat.le_refl _)); replace HB := Lib.hid (HB.out.trans (hb.mono HB.out.size)); clear hb))
    go_ret
    exact ⟨rfl, HB.out⟩
  · have h1' : ¬ (500 : Int) < (s.size : Int) := by omega
    obtain ⟨k, hk⟩ : ∃ k, toksL (bts s) 0 = .error k := by
      rcases h with h | h
      · exact absurd h h1
      · exact h
    have hk0 : (0 : Int) ≤ (k : Int) := by omega
    have HRA := Lib.hid (fun w => rtokens_err s w hs k hk)
    clear h hk
    go_enter Tryd.func6, Tryd.ntmps6
    go_wp2_with (first
      | (go_at_call 10; (with_reducible refine (HRA.out _).mono ?_); rintro e w2 ⟨v, rfl, hb⟩; replace HL := Lib.hid (HL.out.kept hb (Nat.le_refl _)); replace HB := Lib.hid (HB.out.trans (hb.mono HB.out.size)); clear hb)
      | (go_at_call 8; (with_reducible refine (HA.out _ HL.out).mono ?_); rintro e w2 ⟨rfl, hb⟩; replace HL := Lib.hid (HL.out.kept hb (Nat.le_refl _)); replace HB := Lib.hid (HB.out.trans (hb.mono HB.out.size)); clear hb))
    go_ret
    exact ⟨rfl, HB.out⟩
theorem neq_same (a b c d : Int) (w : World) :
    (binOp .neq 34 (.agg #[.int .u64 a, .int .u64 b, .int .u64 c, .int .u64 d]) (.agg #[.int .u64 a, .int .u64 b, .int .u64 c, .int .u64 d])).run Tryd.prog w = .ok (.bool false) w := by
  have h := neq_set a b c d a b c d w
  simpa using h
/-- A comparison of two arrays in a region that only reads. -/
theorem wpQuiet_agg {ops : Array Oper} {C : World → Prop} {Q : Act → Prop} {rest : List Oper} {o : Oper} {a : Act} (op : BinOp) (t u : TypeId) (x y : Operand) (ho : o.op = .binOp op t x y u)
    (hw : Region.wanted o (yielded ops a.tmps) = true) (xs ys : Array Value) (hx : a.eval x = .agg xs) (hy : a.eval y = .agg ys)
    (hm : Tryd.prog.eqGuardType Tryd.prog.depth t = false) (v : Value) (hv : ∀ w, (binOp op t (.agg xs) (.agg ys)).run Tryd.prog w = .ok v w) (h : wpQuiet Tryd.prog ops C Q rest (a.put o.dst v)) : wpQuiet Tryd.prog ops C Q (o :: rest) a :=
  wpQuiet_step fun K hK => by
    rw [if_pos hw]
    refine ⟨v, fun w _ => ?_, hK _ h⟩
    show Oper.quietUpon Tryd.prog C w v ((execOp a.eval o).run Tryd.prog w)
    rw [exec_agg op t u x y ho xs ys hx hy hm v (hv w)]
    exact ⟨rfl, rfl⟩
set_option maxHeartbeats 8000000 in
set_option maxRecDepth 100000 in
theorem spaces_main (hA : LexAwake) (s : ByteArray) (x y : Nat) (w : World) (hs : s.size ≤ 500) (hx : x ≤ 255) (hy : y ≤ 255) (hl : LexLaid w) (want : List Tok) (hw : toksL (bts s) 0 = .ok want) :
    Calls Tryd.prog 6 #[.string s, .int .u8 (x : Int), .int .u8 (y : Int)] w fun e w' => e = .returned (.bool true) ∧ Below w.heap.size w w' := by
  unfold LexAwake at hA
  have HA := Lib.hid hA
  have HB := Lib.hid (Below.refl w.heap.size w)
  have HL := Lib.hid hl
  have h1' : ¬ (500 : Int) < (s.size : Int) := by omega
  obtain ⟨m, hm⟩ : ∃ m, want.length = m := ⟨_, rfl⟩
  have HRA : Hid (∀ w, Calls Tryd.prog 10 #[.string s] w fun e w' => ∃ g cap, e = .returned (.tuple #[.slice (some ⟨g, 0, none⟩) m cap, .int .i64 (-1)]) ∧ (TokRow g want w' ∧ g < w'.heap.size) ∧ Below w.heap.size w w') := Lib.hid (fun w => by rw [← hm]; exact rtokens_ok s want w (by omega) hw)
  have hm0 := toksL_ne _ _ 0 want (Nat.le_refl _) (Nat.zero_le _) hw
  have hm1 := toksL_len _ _ _ _ (Nat.le_refl _) hw
  have hat := toks_at _ 0 want (Nat.le_refl _) (Nat.zero_le _) hw
  rw [hm] at hm0 hm1
  rw [bts_length] at hm1 hat
  obtain ⟨j1, hj1⟩ : ∃ j : Nat, (x : Int) % 5 = (j : Int) := ⟨x % 5, by omega⟩
  obtain ⟨j2, hj2⟩ : ∃ j : Nat, (y : Int) % 5 = (j : Int) := ⟨y % 5, by omega⟩
  have b1 : (j1 : Int) < 5 := by omega
  have b2 : (j2 : Int) < 5 := by omega
  obtain ⟨P, hP⟩ : ∃ P, spB.getD j1 ⟨#[]⟩ = P := ⟨_, rfl⟩
  obtain ⟨Q, hQ⟩ : ∃ Q, spB.getD j2 ⟨#[]⟩ = Q := ⟨_, rfl⟩
  have zP : P.size ≤ 5 := by rw [← hP]; exact spB_size j1
  have zQ : Q.size ≤ 5 := by rw [← hQ]; exact spB_size j2
  have hj := toks_spaces (p := bts P) (q := bts Q) (by rw [← hP]; exact spB_spc j1) (by rw [← hQ]; exact spB_spc j2) hw
  rw [bts_length, bts_length, bts_length] at hj
  have en : (⟨#[10]⟩ : ByteArray).size = 1 := rfl
  have k1 : ∀ w, (Op.stringOp .add P s).run Tryd.prog w = .ok (.string (P ++ s)) w := fun w => run_string_add_sum w _ _ (by omega)
  have k2 : ∀ w, (Op.stringOp .add (P ++ s) ⟨#[10]⟩).run Tryd.prog w = .ok (.string (P ++ s ++ ⟨#[10]⟩)) w := fun w => run_string_add_sum w _ _ (by rw [ByteArray.size_append]; omega)
  have k3 : ∀ w, (Op.stringOp .add (P ++ s ++ ⟨#[10]⟩) Q).run Tryd.prog w = .ok (.string (P ++ s ++ ⟨#[10]⟩ ++ Q)) w := fun w => run_string_add_sum w _ _ (by rw [ByteArray.size_append, ByteArray.size_append]; omega)
  have hbt : bts (P ++ s ++ ⟨#[10]⟩ ++ Q) = bts P ++ (bts s ++ 10 :: bts Q) := by
    rw [bts_append, bts_append, bts_append, List.append_assoc, List.append_assoc]; rfl
  have hsz : (P ++ s ++ ⟨#[10]⟩ ++ Q).size ≤ 1050000 := by
    rw [ByteArray.size_append, ByteArray.size_append, ByteArray.size_append]; omega
  rw [← hbt] at hj
  generalize P ++ s ++ ⟨#[10]⟩ ++ Q = all at k3 hj hsz
  obtain ⟨ts, hts⟩ : ∃ ts, want.dropLast.map (shT P.size) ++ [(⟨0, P.size + (s.size + 1 + Q.size), [], []⟩ : Tok)] = ts := ⟨_, rfl⟩
  rw [hts] at hj
  have hml : ts.length = m := by rw [← hts, List.length_append, List.length_map, List.length_dropLast, hm]; simp; omega
  have HPT : Hid (∀ w, SignsAt w → Calls Tryd.prog 9 #[.string all] w fun e w' => ∃ g cap, e = .returned (.tuple #[.slice (some ⟨g, 0, none⟩) m cap, .nilIface]) ∧ (TokRow g ts w' ∧ g < w'.heap.size) ∧ Below w.heap.size w w') := Lib.hid (fun w h => by rw [← hml]; exact ptokens_ok all ts w hsz h hj)
  obtain ⟨r, hr⟩ : ∃ r : Nat, (m : Int) - 1 = (r : Int) := ⟨m - 1, by omega⟩
  have HM := Lib.hid hm
  have HT := Lib.hid hts
  have HAT := Lib.hid hat
  have HP := Lib.hid hP
  have HQ := Lib.hid hQ
  clear hA hl hw hm hj hbt hts hml hat hP hQ en
  go_enter Tryd.func6, Tryd.ntmps6
  go_upto_region 5 with (first
    | (go_at_call 10; (with_reducible refine (HRA.out _).mono ?_); rintro e w2 ⟨gx, cx, rfl, hr, hb⟩; have HGX := Lib.hid hr; replace HL := Lib.hid (HL.out.kept hb (Nat.le_refl _)); replace HB := Lib.hid (HB.out.trans (hb.mono HB.out.size)); clear hb hr)
    | (go_at_call 8; (with_reducible refine (HA.out _ HL.out).mono ?_); rintro e w3 ⟨rfl, hb⟩; replace HGX := Lib.hid (And.intro (HGX.out.1.kept hb HGX.out.2) (Nat.lt_of_lt_of_le HGX.out.2 hb.size)); replace HL := Lib.hid (HL.out.kept hb (Nat.le_refl _)); replace HB := Lib.hid (HB.out.trans (hb.mono HB.out.size)); clear hb))
  have hc : ∀ j, j < 5 → (w3.alloc (Obj.cells #[Value.string { data := #[] }, Value.string { data := #[32] }, Value.string { data := #[9, 10] }, Value.string { data := #[35, 32, 99, 13, 10] }, Value.string { data := #[13, 35, 10, 32] }] 9)).cell? ⟨w3.heap.size, j, none⟩ = some (.string (spB.getD j ⟨#[]⟩)) := fun j hj => by
    rw [World.cell?_alloc_at _ _ _ _ (by simp)]
    rcases (by omega : j = 0 ∨ j = 1 ∨ j = 2 ∨ j = 3 ∨ j = 4) with rfl | rfl | rfl | rfl | rfl <;> rfl
  have hb4 : Below w3.heap.size w3 (w3.alloc (Obj.cells #[Value.string { data := #[] }, Value.string { data := #[32] }, Value.string { data := #[9, 10] }, Value.string { data := #[35, 32, 99, 13, 10] }, Value.string { data := #[13, 35, 10, 32] }] 9)) := (Below.refl _ _).alloc (Nat.le_refl _) _
  generalize w3.alloc (Obj.cells #[Value.string { data := #[] }, Value.string { data := #[32] }, Value.string { data := #[9, 10] }, Value.string { data := #[35, 32, 99, 13, 10] }, Value.string { data := #[13, 35, 10, 32] }] 9) = W4 at hc hb4 ⊢
  have hc1 := hc j1 (by omega)
  have hc2 := hc j2 (by omega)
  rw [HP.out] at hc1
  rw [HQ.out] at hc2
  replace HGX := Lib.hid (And.intro (HGX.out.1.kept hb4 HGX.out.2) (Nat.lt_of_lt_of_le HGX.out.2 hb4.size))
  replace HL := Lib.hid (HL.out.kept hb4 (Nat.le_refl _))
  replace HB := Lib.hid (HB.out.trans (hb4.mono HB.out.size))
  clear hc hb4
  go_wp2_with (go_at_call 9; (with_reducible refine (HPT.out _ HL.out.signs).mono ?_); rintro e w5 ⟨gl, cl, rfl, hr2, hb⟩; have HGL := Lib.hid hr2; replace HGX := Lib.hid (And.intro (HGX.out.1.kept hb HGX.out.2) (Nat.lt_of_lt_of_le HGX.out.2 hb.size)); replace HB := Lib.hid (HB.out.trans (hb.mono HB.out.size)); clear hb hr2)
  clear k1 k2 k3 hc1 hc2 hj1 hj2
  go_loopw [14] (fun c wx => ∃ (i n : Nat), i ≤ r ∧ c = .int .i64 i ∧ wx = w5.drewN n) (fun c _ => r - (intOf c).toNat)
  case atStart => exact ⟨0, 0, Nat.zero_le _, rfl, rfl⟩
  case round =>
    obtain ⟨i, n, hi, rfl, rfl⟩ := hrel
    by_cases hlt : i < r
    · have hlt' : (i : Int) < (r : Int) := by omega
      have hlm : (i : Int) < (m : Int) := by omega
      obtain ⟨t, ht⟩ : ∃ t, want[i]? = some t := ⟨want[i]'(by rw [HM.out]; omega), List.getElem?_eq_getElem _⟩
      have htl : ts[i]? = some (shT P.size t) := by
        rw [← HT.out, List.getElem?_append_left (by rw [List.length_map, List.length_dropLast, HM.out]; omega), List.getElem?_map, dropLast_at (by rw [HM.out]; omega), ht]; rfl
      have hat := HAT.out t (List.mem_of_getElem? ht)
      obtain ⟨c0, c1, c2, c3, c4, c5, c6⟩ := HGL.out.1 i _ htl
      obtain ⟨d0, d1, d2, d3, d4, d5, d6⟩ := HGX.out.1 i t ht
      have hsh : (((shT P.size t).at_ : Nat) : Int) = (t.at_ : Int) + (P.size : Int) := by show ((t.at_ + P.size : Nat) : Int) = _; omega
      have hsk : (((shT P.size t).kind : Nat) : Int) = (t.kind : Int) := rfl
      have hst : strOf (shT P.size t).text = strOf t.text := rfl
      have hsr : (shT P.size t).rs = t.rs := rfl
      rw [hsh] at c1
      rw [hsk] at c0
      rw [hst] at c2
      rw [hsr] at c3 c4 c5 c6
      have v1 : IntKind.i64.wrap ((t.at_ : Int) + (P.size : Int)) = (t.at_ : Int) + (P.size : Int) := IntWalk.i64_in _ (by omega)
      clear ht htl hsh hsk hst hsr hat
      generalize (t.kind : Int) = tk at c0 d0
      generalize (t.at_ : Int) = ta at c1 d1 v1
      generalize strOf t.text = tt at c2 d2
      generalize setW (inRs t.rs) 0 = t0 at c3 d3
      generalize setW (inRs t.rs) 1 = t1 at c4 d4
      generalize setW (inRs t.rs) 2 = t2 at c5 d5
      generalize setW (inRs t.rs) 3 = t3 at c6 d6
      go_wp2
      refine wp_region_quiet_lit (by kernel_rfl) (by kernel_rfl) ?_
      repeat (first
        | (with_reducible refine wpQuiet_agg BinOp.neq 34 _ _ _ rfl rfl _ _ rfl rfl gt_set _ (fun w => neq_same t0 t1 t2 t3 w) ?_)
        | quiet_step (fail))
      refine wpQuiet_nil ?_
      intro _ hw'
      obtain ⟨nq, hw''⟩ := hw'
      subst hw''
      go_wp2
      go_roundw
      case rel => exact ⟨i + 1, _, by omega, by go_num, rfl⟩
      case measure => simp [intOf]; omega
    · have hlt' : ¬ (i : Int) < (r : Int) := by omega
      have hte : ts[r]? = some (⟨0, P.size + (s.size + 1 + Q.size), [], []⟩ : Tok) := by
        rw [← HT.out, List.getElem?_append_right (by rw [List.length_map, List.length_dropLast, HM.out]; omega), List.length_map, List.length_dropLast, HM.out, show r - (m - 1) = 0 by omega]; rfl
      obtain ⟨c0, c1, -⟩ := HGL.out.1 r _ hte
      have c0' : w5.cell? ⟨gl, r * 7, none⟩ = some (.int .i64 0) := c0
      have c1' : w5.cell? ⟨gl, r * 7 + 1, none⟩ = some (.int .i64 ((P.size : Int) + (s.size : Int) + 1 + (Q.size : Int))) := by
        rw [c1]; congr 2; show ((P.size + (s.size + 1 + Q.size) : Nat) : Int) = _; omega
      have hrm : (r : Int) < (m : Int) := by omega
      clear c0 c1 hte
      go_wp2
      go_ret
      exact ⟨rfl, below_drewN HB.out⟩
theorem spaces_any (hA : LexAwake) (s : ByteArray) (x y : Nat) (w : World) (hs : s.size ≤ 1050000) (hx : x ≤ 255) (hy : y ≤ 255) (hl : LexLaid w) :
    Calls Tryd.prog 6 #[.string s, .int .u8 (x : Int), .int .u8 (y : Int)] w fun e w' => e = .returned (.bool true) ∧ Below w.heap.size w w' := by
  by_cases h : 500 < s.size
  · exact spaces_out hA s x y w hs hl (Or.inl h)
  · cases hw : toksL (bts s) 0 with
    | error k => exact spaces_out hA s x y w hs hl (Or.inr ⟨k, hw⟩)
    | ok want => exact spaces_main hA s x y w (Nat.le_of_not_lt h) hx hy hl want hw
end Go.Proofs.YtipokoalcbaolaaDoor
