/- The program's token: the token at an index, but for its place; its end. -/
import Derived.Test.YtipokoalcbaolaaDoorLexCls
import Derived.Test.YtipokoalcbaolaaDoorLexStr
namespace Go.Proofs.YtipokoalcbaolaaDoor
open Go.RowKit
/-- What token returns. -/
def PTokIs (o : Option (Tok × Nat)) (w : World) (e : Ending) (w' : World) : Prop :=
  match o with
  | none => e = .returned (.tuple #[.agg #[.int .i64 0, .int .i64 0, .string ⟨#[]⟩, .int .u64 0, .int .u64 0, .int .u64 0, .int .u64 0], .int .i64 0, .bool false]) ∧ Below w.heap.size w w'
  | some (t, n) => e = .returned (.tuple #[.agg #[.int .i64 (t.kind : Int), .int .i64 0, .string (strOf t.text), .int .u64 (setW (inRs t.rs) 0), .int .u64 (setW (inRs t.rs) 1), .int .u64 (setW (inRs t.rs) 2), .int .u64 (setW (inRs t.rs) 3)], .int .i64 (n : Int), .bool true]) ∧ Below w.heap.size w w'
theorem PTokIs.no {o : Option (Tok × Nat)} {w w' : World} (h : o = none) (hb : Below w.heap.size w w') :
    PTokIs o w (.returned (.tuple #[.agg #[.int .i64 0, .int .i64 0, .string ⟨#[]⟩, .int .u64 0, .int .u64 0, .int .u64 0, .int .u64 0], .int .i64 0, .bool false])) w' := by
  subst h; exact ⟨rfl, hb⟩
theorem PTokIs.plain {o : Option (Tok × Nat)} {w w' : World} {k a n : Nat} {t : List Nat} {x y : Int} {s : ByteArray} (h : o = some (⟨a, k, t, []⟩, n)) (ha : x = a) (hs : s = strOf t) (hn : y = n) (hb : Below w.heap.size w w') :
    PTokIs o w (.returned (.tuple #[.agg #[.int .i64 x, .int .i64 0, .string s, .int .u64 0, .int .u64 0, .int .u64 0, .int .u64 0], .int .i64 y, .bool true])) w' := by
  subst h ha hs hn
  refine ⟨?_, hb⟩
  simp only [inRs_none]
theorem PTokIs.cls {o : Option (Tok × Nat)} {w w' : World} {k n : Nat} {rs : List (Nat × Nat)} {y : Int} (h : o = some (⟨13, k, [], rs⟩, n)) (hn : y = n) (hb : Below w.heap.size w w') :
    PTokIs o w (.returned (.tuple #[.agg #[.int .i64 13, .int .i64 0, .string ⟨#[]⟩, .int .u64 (setW (inRs rs) 0), .int .u64 (setW (inRs rs) 1), .int .u64 (setW (inRs rs) 2), .int .u64 (setW (inRs rs) 3)], .int .i64 y, .bool true])) w' := by
  subst h hn; exact ⟨rfl, hb⟩
/-- The bytes of a sign. -/
def sgN (i : Nat) : Nat := if i = 2 then 2 else 1
theorem tokL_sg {k c : Nat} {r : List Nat} (hl : letB c true = false) (h91 : c ≠ 91) (hq : ¬ (c = 39 ∨ c = 34)) : tokL k (c :: r) = (prF 2 sgL (c :: r)).map fun i => (⟨i, k, [], []⟩, k + sgN i) := by
  rw [prF_signs]
  by_cases ha : c = 60 ∧ r.head? = some 45
  · rw [if_pos ha, tokL_arrow hl ha]; rfl
  · rw [if_neg ha]
    cases hs : signK c with
    | none => rw [tokL_bad hl ha hs h91 hq]; rfl
    | some i =>
      rw [tokL_sign hl ha hs]
      have := idxL_ge _ _ _ _ hs
      show _ = some (_, k + sgN i)
      unfold sgN
      rw [if_neg (by omega)]
theorem tk_one (w : World) : Below w.heap.size w (w.alloc (.cells #[.int .i64 0, .int .i64 0, .string ⟨#[]⟩, .int .u64 0, .int .u64 0, .int .u64 0, .int .u64 0] 37)) := (Below.refl _ w).alloc (Nat.le_refl _) _
theorem alloc_size (w : World) (o : Obj) : (w.alloc o).heap.size = w.heap.size + 1 := by simp
set_option maxHeartbeats 4000000 in
set_option maxRecDepth 100000 in
theorem ptok_cls (s : ByteArray) (k : Nat) (w : World) (hs : s.size ≤ 1050000) (hlt : k < s.size) (h91 : s[k].toNat = 91) :
    Calls Tryd.prog 22 #[.string s, .int .i64 (k : Int)] w (PTokIs (tokL k ((bts s).drop k)) w) := by
  have hlt' : (k : Int) < (s.size : Int) := by omega
  have hq : tokL k ((bts s).drop k) = (clsL ((bts s).drop (k + 1))).map fun x => (⟨13, k, [], x.1⟩, k + 1 + x.2) := by rw [bts_drop s k hlt, h91]; exact tokL_cls
  have hc := pclass_any s k
  cases hr : clsL ((bts s).drop (k + 1)) with
  | none =>
    rw [hr] at hc hq
    have HQ : Hid (tokL k ((bts s).drop k) = none) := Lib.hid hq
    have hc' : ∀ w, Calls Tryd.prog 32 #[.string s, .int .i64 (k : Int)] w fun e w' => e = .returned (.tuple #[.agg #[.int .i64 0, .int .i64 0, .string ⟨#[]⟩, .int .u64 0, .int .u64 0, .int .u64 0, .int .u64 0], .int .i64 0, .bool false]) ∧ Below w.heap.size w w' := fun w => hc w hs hlt
    have HC := Lib.hid hc'
    clear hc hc' hq hr
    go_enter Tryd.func22, Tryd.ntmps22
    go_wp2_with (go_at_call 32; (with_reducible refine (HC.out _).mono ?_); rintro e w2 ⟨rfl, hb⟩; obtain ⟨⟨d0, d1, d2, d3, d4, d5, d6⟩, hfr⟩ := (Zero7.new2 w).below hb (by rw [alloc_size]; omega); have HB := Lib.hid ((tk_one w).trans (hb.mono (by rw [alloc_size]; omega))); clear hb)
    refine bodyPost_ret (v := .tuple #[.agg #[.int .i64 0, .int .i64 0, .string ⟨#[]⟩, .int .u64 0, .int .u64 0, .int .u64 0, .int .u64 0], .int .i64 0, .bool false]) (by simp [results, Tryd.results22, go_sem, d0, d1, d2, d3, d4, d5, d6]) rfl (PTokIs.no HQ.out ?_)
    exact seven_set HB.out _ _ _ _ _ _ _
  | some x =>
    obtain ⟨rs, m⟩ := x
    rw [hr] at hc hq
    have HQ : Hid (tokL k ((bts s).drop k) = some (⟨13, k, [], rs⟩, k + 1 + m)) := Lib.hid hq
    have hc' : ∀ w, Calls Tryd.prog 32 #[.string s, .int .i64 (k : Int)] w fun e w' => e = .returned (.tuple #[.agg #[.int .i64 13, .int .i64 0, .string ⟨#[]⟩, .int .u64 (setW (inRs rs) 0), .int .u64 (setW (inRs rs) 1), .int .u64 (setW (inRs rs) 2), .int .u64 (setW (inRs rs) 3)], .int .i64 ((k + 1 + m : Nat) : Int), .bool true]) ∧ Below w.heap.size w w' := fun w => hc w hs hlt
    obtain ⟨n, hn⟩ : ∃ n : Nat, k + 1 + m = n := ⟨_, rfl⟩
    rw [hn] at hc' HQ
    have HC := Lib.hid hc'
    clear hc hc' hq hr hn
    go_enter Tryd.func22, Tryd.ntmps22
    go_wp2_with (go_at_call 32; (with_reducible refine (HC.out _).mono ?_); rintro e w2 ⟨rfl, hb⟩; obtain ⟨⟨d0, d1, d2, d3, d4, d5, d6⟩, hfr⟩ := (Zero7.new2 w).below hb (by rw [alloc_size]; omega); have HB := Lib.hid ((tk_one w).trans (hb.mono (by rw [alloc_size]; omega))); clear hb)
    refine bodyPost_ret (v := .tuple #[.agg #[.int .i64 13, .int .i64 0, .string ⟨#[]⟩, .int .u64 (setW (inRs rs) 0), .int .u64 (setW (inRs rs) 1), .int .u64 (setW (inRs rs) 2), .int .u64 (setW (inRs rs) 3)], .int .i64 (n : Int), .bool true]) (by simp [results, Tryd.results22, go_sem, d0, d1, d2, d3, d4, d5, d6]) rfl (PTokIs.cls HQ.out rfl ?_)
    exact seven_set HB.out _ _ _ _ _ _ _
set_option maxHeartbeats 4000000 in
set_option maxRecDepth 100000 in
theorem ptok_word (s : ByteArray) (k : Nat) (w : World) (hs : s.size ≤ 1050000) (hlt : k < s.size) (hl : letB s[k].toNat true = true) (h91 : s[k].toNat ≠ 91) (h39 : s[k].toNat ≠ 39) (h34 : s[k].toNat ≠ 34) :
    Calls Tryd.prog 22 #[.string s, .int .i64 (k : Int)] w (PTokIs (tokL k ((bts s).drop k)) w) := by
  have hlt' : (k : Int) < (s.size : Int) := by omega
  have hd := bts_drop s k hlt
  have hq : tokL k ((bts s).drop k) = some (⟨1, k, ((bts s).drop k).take (idL true ((bts s).drop k)), []⟩, k + idL true ((bts s).drop k)) := by rw [hd]; exact tokL_id hl
  have hn1 : 1 ≤ idL true ((bts s).drop k) := by rw [hd, idL_yes hl]; omega
  have hn2 := idL_le ((bts s).drop k) true
  rw [List.length_drop, bts_length] at hn2
  have hW : ∀ w, Calls Tryd.prog 27 #[.string s, .int .i64 (k : Int)] w fun e w' => e = .returned (.int .i64 ((k + idL true ((bts s).drop k) : Nat) : Int)) ∧ w' = w := fun w => word_any s k w (by omega) (by omega)
  obtain ⟨n, hn⟩ : ∃ n, k + idL true ((bts s).drop k) = n := ⟨_, rfl⟩
  have hx : s.extract k n = strOf (((bts s).drop k).take (idL true ((bts s).drop k))) := by rw [strOf_ext, ← hn, Nat.add_sub_cancel_left]
  rw [hn] at hW hq
  have g1 : k < n := by omega
  have g2 : n ≤ s.size := by omega
  have g3 : (k : Int) < (n : Int) := by omega
  have ksl : ∀ w, (Instr.slice 9 (.string s) (some (.int .i64 (k : Int))) (some (.int .i64 (n : Int))) none).run Tryd.prog w = .ok (.string (s.extract k n)) w := fun w =>
    run_slice_string (P := Tryd.prog) (w := w) 9 s .i64 .i64 (k : Int) (n : Int) Tryd.underlying9 (by omega) (by omega) (by omega)
  have hxs : (s.extract k n).size ≤ 2000000 := by rw [ByteArray.size_extract]; omega
  generalize s.extract k n = tl at ksl hxs hx
  have e1 := beq_no (d := s[k].toNat) (k := 91) (by omega)
  have e2 := beq_no (d := s[k].toNat) (k := 39) (by omega)
  have e3 := beq_no (d := s[k].toNat) (k := 34) (by omega)
  have HW := Lib.hid hW
  have HQ := Lib.hid hq
  have HX := Lib.hid hx
  clear hW hq hx hn hn1 hn2 hd hl h91 h39 h34
  go_enter Tryd.func22, Tryd.ntmps22
  go_wp2_with (first
    | (go_at_call 27; (with_reducible refine (HW.out _).mono ?_); rintro e w' ⟨rfl, hw⟩; obtain rfl := hw.symm; clear hw)
    | (go_at_call 33; (with_reducible refine (clone_any tl _ hxs).mono ?_); rintro e w2 ⟨rfl, hb⟩; obtain ⟨⟨d0, d1, d2, d3, d4, d5, d6⟩, hfr⟩ := (Zero7.new2 w).below hb (by rw [alloc_size]; omega); have HB := Lib.hid ((tk_one w).trans (hb.mono (by rw [alloc_size]; omega))); clear hb))
  refine bodyPost_ret (v := .tuple #[.agg #[.int .i64 1, .int .i64 0, .string tl, .int .u64 0, .int .u64 0, .int .u64 0, .int .u64 0], .int .i64 (n : Int), .bool true]) (by simp [results, Tryd.results22, go_sem, d0, d1, d2, d3, d4, d5, d6]) rfl (PTokIs.plain HQ.out rfl HX.out rfl ?_)
  exact seven_set HB.out _ _ _ _ _ _ _
/-- No letter stands at an index: word goes nowhere. -/
theorem word_none (s : ByteArray) (k : Nat) (w : World) (hs : s.size ≤ 2000000) (hlt : k < s.size) (hl : letB s[k].toNat true = false) :
    Calls Tryd.prog 27 #[.string s, .int .i64 (k : Int)] w fun e w' => e = .returned (.int .i64 (k : Int)) ∧ w' = w := by
  have h := word_any s k w hs (by omega)
  rw [bts_drop s k hlt, idL_no hl] at h
  exact h
set_option maxHeartbeats 4000000 in
set_option maxRecDepth 100000 in
theorem ptok_sign (s : ByteArray) (k : Nat) (w : World) (hs : s.size ≤ 1050000) (hlt : k < s.size) (hS : SignsAt w) (hl : letB s[k].toNat true = false) (h91 : s[k].toNat ≠ 91) (h39 : s[k].toNat ≠ 39) (h34 : s[k].toNat ≠ 34) :
    Calls Tryd.prog 22 #[.string s, .int .i64 (k : Int)] w (PTokIs (tokL k ((bts s).drop k)) w) := by
  have hlt' : (k : Int) < (s.size : Int) := by omega
  have hd := bts_drop s k hlt
  have hq : tokL k ((bts s).drop k) = (prF 2 sgL ((bts s).drop k)).map fun i => (⟨i, k, [], []⟩, k + sgN i) := by rw [hd]; exact tokL_sg hl h91 (by omega)
  have hW : ∀ w, Calls Tryd.prog 27 #[.string s, .int .i64 (k : Int)] w fun e w' => e = .returned (.int .i64 (k : Int)) ∧ w' = w := fun w => word_none s k w (by omega) hlt hl
  have ksl : ∀ w, (Instr.slice 9 (.string s) (some (.int .i64 (k : Int))) none none).run Tryd.prog w = .ok (.string (s.extract k s.size)) w := fun w => run_slice_string_l (P := Tryd.prog) (w := w) 9 s Tryd.underlying9 .i64 (k : Int) (by omega) (by omega)
  have hbt := bts_tail s k
  generalize s.extract k s.size = tl at ksl hbt
  have e1 := beq_no (d := s[k].toNat) (k := 91) (by omega)
  have e2 := beq_no (d := s[k].toNat) (k := 39) (by omega)
  have e3 := beq_no (d := s[k].toNat) (k := 34) (by omega)
  have hS1 : SignsAt (w.alloc (.cells #[.int .i64 0, .int .i64 0, .string ⟨#[]⟩, .int .u64 0, .int .u64 0, .int .u64 0, .int .u64 0] 37)) := hS.kept (tk_one w) (Nat.le_refl _)
  have HS1 := Lib.hid hS1
  have HW := Lib.hid hW
  have HQ := Lib.hid hq
  have HT := Lib.hid hbt
  clear hW hq hbt hd hl h91 h39 h34 hS hS1
  go_enter Tryd.func22, Tryd.ntmps22
  go_wp2_with (go_at_call 27; (with_reducible refine (HW.out _).mono ?_); rintro e w' ⟨rfl, hw⟩; obtain rfl := hw.symm; clear hw; have c0 := HS1.out 0 (by decide); have c1 := HS1.out 1 (by decide); have c2 := HS1.out 2 (by decide); have c3 := HS1.out 3 (by decide); have c4 := HS1.out 4 (by decide); have c5 := HS1.out 5 (by decide); have c6 := HS1.out 6 (by decide); have c7 := HS1.out 7 (by decide); have c8 := HS1.out 8 (by decide); have c9 := HS1.out 9 (by decide))
  rw [sgA_lit]
  clear c0 c1 c2 c3 c4 c5 c6 c7 c8 c9
  go_loop [43] (fun c => ∃ j : Nat, j ≤ 10 ∧ c = .int .i64 j ∧ prF 2 sgL ((bts s).drop k) = prF (2 + j) (sgL.drop j) ((bts s).drop k)) (fun c => 10 - (intOf c).toNat)
  case atStart => exact ⟨0, by omega, rfl, rfl⟩
  case round =>
    obtain ⟨j, hj, rfl, he⟩ := hrel
    have HE := Lib.hid he
    clear he
    by_cases hltj : j < 10
    · have hltj' : (j : Int) < 10 := by omega
      have hix := fun w => sgA_index w j hltj
      have hb := sgS_bts j hltj
      have hdj := sgL_drop j hltj
      have hlen := sign_at j hltj
      rw [← hb] at hdj hlen
      rw [bts_length] at hlen
      generalize sgS j = x at hix hb hdj hlen
      cases hx : (bts x).isPrefixOf ((bts s).drop k)
      · have hq : prF 2 sgL ((bts s).drop k) = prF (2 + (j + 1)) (sgL.drop (j + 1)) ((bts s).drop k) := by rw [HE.out, hdj, prF_no hx]; rfl
        have hp : ∀ w, Calls Tryd.prog 34 #[.string tl, .string x] w fun e w' => e = .returned (.bool false) ∧ w' = w := fun w => by
          have h := hasPrefix_any tl x w
          rw [hasPrefix_bts, HT.out, hx] at h; exact h
        have HP := Lib.hid hp
        have HQ2 := Lib.hid hq
        clear hq hb hdj hx hp hlen
        go_wp2_with (go_at_call 34; (with_reducible refine (HP.out _).mono ?_); rintro e w' ⟨rfl, hw⟩; obtain rfl := hw.symm; clear hw)
        go_round
        case rel => exact ⟨j + 1, by omega, by go_num, HQ2.out⟩
        case measure => simp [intOf]; omega
      · have hq : tokL k ((bts s).drop k) = some (⟨2 + j, k, [], []⟩, k + x.size) := by
          rw [HQ.out, HE.out, hdj, prF_yes hx, hlen]
          show some (_, k + sgN (2 + j)) = _
          unfold sgN
          by_cases h0 : j = 0
          · subst h0; rfl
          · rw [if_neg (by omega), if_neg h0]
        have hxz : x.size ≤ 2 := by rw [hlen]; split <;> omega
        have hp : ∀ w, Calls Tryd.prog 34 #[.string tl, .string x] w fun e w' => e = .returned (.bool true) ∧ w' = w := fun w => by
          have h := hasPrefix_any tl x w
          rw [hasPrefix_bts, HT.out, hx] at h; exact h
        have HP := Lib.hid hp
        have HQ2 := Lib.hid hq
        clear hq hb hdj hx hp hlen
        go_wp2_with (go_at_call 34; (with_reducible refine (HP.out _).mono ?_); rintro e w' ⟨rfl, hw⟩; obtain rfl := hw.symm; clear hw)
        refine bodyPost_ret (v := .tuple #[.agg #[.int .i64 (2 + (j : Int)), .int .i64 0, .string ⟨#[]⟩, .int .u64 0, .int .u64 0, .int .u64 0, .int .u64 0], .int .i64 ((k : Int) + (x.size : Int)), .bool true]) (by simp [results, Tryd.results22, go_sem]) rfl (PTokIs.plain HQ2.out (by omega) rfl (by omega) ?_)
        first
          | exact (Below.refl _ w).alloc (Nat.le_refl _) _
          | exact seven_set (tk_one w) _ _ _ _ _ _ _
    · obtain rfl : j = 10 := by omega
      have hq : tokL k ((bts s).drop k) = none := by rw [HQ.out, HE.out]; rfl
      have HQ2 := Lib.hid hq
      clear hq
      go_wp2
      refine bodyPost_ret (v := .tuple #[.agg #[.int .i64 0, .int .i64 0, .string ⟨#[]⟩, .int .u64 0, .int .u64 0, .int .u64 0, .int .u64 0], .int .i64 0, .bool false]) (by simp [results, Tryd.results22, go_sem]) rfl (PTokIs.no HQ2.out ?_)
      first
        | exact (Below.refl _ w).alloc (Nat.le_refl _) _
        | exact seven_set (tk_one w) _ _ _ _ _ _ _
end Go.Proofs.YtipokoalcbaolaaDoor
