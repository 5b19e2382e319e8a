/- The fixed examples of the lexer. -/
import Derived.Test.YtipokoalcbaolaaDoorLexLawNext
import Derived.Deep.RegionHeld3
namespace Go.Proofs.YtipokoalcbaolaaDoor
open Go.RowKit
def exA : List Nat := [65, 32, 60, 45, 32, 39, 98, 39, 32, 91, 97, 45, 99, 93]
theorem exA_0 : nextL exA 0 = .ok (⟨1, 0, [65], []⟩, 1) := by
  rw [nextL_eq, show exA.drop 0 = 65 :: exA.drop 1 from rfl, skipL_stop (by decide) (by decide)]
  show (match tokL 0 (65 :: exA.drop 1) with | some x => Except.ok x | none => .error 0) = _
  rw [tokL_id (by decide)]; rfl
theorem exA_1 : nextL exA 1 = .ok (⟨2, 2, [], []⟩, 4) := by
  rw [nextL_eq, show exA.drop 1 = 32 :: 60 :: exA.drop 3 from rfl, skipL_space (by decide), skipL_stop (by decide) (by decide)]
  show (match tokL 2 (60 :: exA.drop 3) with | some x => Except.ok x | none => .error 2) = _
  rw [tokL_arrow (by decide) (by decide)]
theorem exA_4 : nextL exA 4 = .ok (⟨12, 5, [98], []⟩, 8) := by
  rw [nextL_eq, show exA.drop 4 = 32 :: 39 :: exA.drop 6 from rfl, skipL_space (by decide), skipL_stop (by decide) (by decide)]
  show (match tokL 5 (39 :: 98 :: exA.drop 7) with | some x => Except.ok x | none => .error _) = _
  rw [tokL_lit (Or.inl rfl), litE_step (c := 98) (n := 1) rfl (by decide), show (98 :: exA.drop 7).drop 1 = 39 :: exA.drop 8 from rfl, litE_end]
  rfl
theorem exA_8 : nextL exA 8 = .ok (⟨13, 9, [], [(97, 99)]⟩, 14) := by
  rw [nextL_eq, show exA.drop 8 = 32 :: 91 :: exA.drop 10 from rfl, skipL_space (by decide), skipL_stop (by decide) (by decide)]
  show (match tokL 9 (91 :: 97 :: exA.drop 11) with | some x => Except.ok x | none => .error _) = _
  rw [tokL_cls, clsL_range (c := 97) (r := exA.drop 11) (lo := 97) (n := 1) (hi := 99) (m := 1) (t := [99, 93]) rfl (by decide) rfl rfl, show (97 :: exA.drop 11).drop (1 + 1 + 1) = 93 :: [] from rfl, clsL_end]
  rfl
theorem exA_14 : nextL exA 14 = .ok (⟨0, 14, [], []⟩, 14) := by
  rw [nextL_eq, show exA.drop 14 = [] from rfl, skipL_nil]; rfl
theorem exA_toks : toksL exA 0 = .ok [⟨1, 0, [65], []⟩, ⟨2, 2, [], []⟩, ⟨12, 5, [98], []⟩, ⟨13, 9, [], [(97, 99)]⟩, ⟨0, 14, [], []⟩] := by
  rw [toksL_step exA_0 (by decide) (by decide), toksL_step exA_1 (by decide) (by decide), toksL_step exA_4 (by decide) (by decide), toksL_step exA_8 (by decide) (by decide), toksL_end exA_14 rfl]
  rfl
theorem exB_toks : toksL [39, 98] 0 = .error 0 := by
  refine toksL_bad ?_
  rw [nextL_eq, List.drop_zero, skipL_stop (by decide) (by decide)]
  show (match tokL 0 (39 :: 98 :: []) with | some x => Except.ok x | none => .error _) = _
  rw [tokL_lit (Or.inl rfl), litE_step (c := 98) (n := 1) rfl (by decide), show (98 :: ([] : List Nat)).drop 1 = [] from rfl, litE_nil]
  rfl
/-- The tokens of the first example, as they lie in memory. -/
def ExRow (g : Nat) (w : World) : Prop :=
  w.cell? ⟨g, 0, none⟩ = some (.int .i64 1) ∧ w.cell? ⟨g, 2, none⟩ = some (.string ⟨#[65]⟩) ∧ w.cell? ⟨g, 7, none⟩ = some (.int .i64 2) ∧ w.cell? ⟨g, 16, none⟩ = some (.string ⟨#[98]⟩) ∧
  w.cell? ⟨g, 24, none⟩ = some (.int .u64 (setW (inR 97 100) 0)) ∧ w.cell? ⟨g, 25, none⟩ = some (.int .u64 (setW (inR 97 100) 1)) ∧ w.cell? ⟨g, 26, none⟩ = some (.int .u64 (setW (inR 97 100) 2)) ∧ w.cell? ⟨g, 27, none⟩ = some (.int .u64 (setW (inR 97 100) 3)) ∧ w.cell? ⟨g, 28, none⟩ = some (.int .i64 0)
theorem ExRow.below {g n : Nat} {w w' : World} (h : ExRow g w) (hb : Below n w w') (hg : g < n) : ExRow g w' := by
  obtain ⟨h0, h1, h2, h3, h4, h5, h6, h7, h8⟩ := h
  have hc := (bcell hb).1
  refine ⟨?_, ?_, ?_, ?_, ?_, ?_, ?_, ?_, ?_⟩ <;> (rw [hc _ _ hg]; assumption)
theorem exR (k : Nat) : setW (inRs [(97, 99)]) k = setW (inR 97 100) k := setW_congr (fun j _ => by
  unfold inRs inR
  simp only [List.any_cons, List.any_nil, Bool.or_false]
  rw [Bool.eq_iff_iff]; simp; omega)
theorem ExRow.of {w : World} {b : Nat} {v : Value} (h : w.ownsRow b 37 7 v 5 (toksC [⟨1, 0, [65], []⟩, ⟨2, 2, [], []⟩, ⟨12, 5, [98], []⟩, ⟨13, 9, [], [(97, 99)]⟩, ⟨0, 14, [], []⟩])) : ∃ g cap, v = .slice (some ⟨g, 0, none⟩) 5 cap ∧ ExRow g w ∧ g < w.heap.size := by
  have h2 := h
  rcases h.2 with ⟨-, h0⟩ | ⟨g, cap, cur, rfl, -⟩
  · cases h0
  · have hc : ∀ (j : Nat) u, (toksC [⟨1, 0, [65], []⟩, ⟨2, 2, [], []⟩, ⟨12, 5, [98], []⟩, ⟨13, 9, [], [(97, 99)]⟩, ⟨0, 14, [], []⟩])[j]? = some u → w.cell? ⟨g, j, none⟩ = some u := fun j u hu => by
      have := h2.cells rfl j u hu
      rw [Addr.add_lit, Nat.zero_add] at this; exact this
    refine ⟨g, cap, rfl, ⟨hc 0 _ rfl, hc 2 _ rfl, hc 7 _ rfl, hc 16 _ rfl, ?_, ?_, ?_, ?_, hc 28 _ rfl⟩, (h2.lt g rfl).2⟩
    · rw [← exR]; exact hc 24 _ rfl
    · rw [← exR]; exact hc 25 _ rfl
    · rw [← exR]; exact hc 26 _ rfl
    · rw [← exR]; exact hc 27 _ rfl
theorem exK {g n : Nat} {z0 z1 z2 z3 : Int} {w W W' : World} (hn : n ≤ w.heap.size) (hb : Below W.heap.size W W') (h : W.cell? ⟨g, 0, none⟩ = some (.int .i64 1) ∧ W.cell? ⟨g, 2, none⟩ = some (.string ⟨#[65]⟩) ∧ W.cell? ⟨g, 7, none⟩ = some (.int .i64 2) ∧ W.cell? ⟨g, 16, none⟩ = some (.string ⟨#[98]⟩) ∧ W.cell? ⟨g, 24, none⟩ = some (.int .u64 z0) ∧ W.cell? ⟨g, 25, none⟩ = some (.int .u64 z1) ∧ W.cell? ⟨g, 26, none⟩ = some (.int .u64 z2) ∧ W.cell? ⟨g, 27, none⟩ = some (.int .u64 z3) ∧ W.cell? ⟨g, 28, none⟩ = some (.int .i64 0) ∧ LexLaid W ∧ g < W.heap.size ∧ Below n w W) : W'.cell? ⟨g, 0, none⟩ = some (.int .i64 1) ∧ W'.cell? ⟨g, 2, none⟩ = some (.string ⟨#[65]⟩) ∧ W'.cell? ⟨g, 7, none⟩ = some (.int .i64 2) ∧ W'.cell? ⟨g, 16, none⟩ = some (.string ⟨#[98]⟩) ∧ W'.cell? ⟨g, 24, none⟩ = some (.int .u64 z0) ∧ W'.cell? ⟨g, 25, none⟩ = some (.int .u64 z1) ∧ W'.cell? ⟨g, 26, none⟩ = some (.int .u64 z2) ∧ W'.cell? ⟨g, 27, none⟩ = some (.int .u64 z3) ∧ W'.cell? ⟨g, 28, none⟩ = some (.int .i64 0) ∧ LexLaid W' ∧ g < W'.heap.size ∧ Below n w W' := by
  obtain ⟨h0, h1, h2, h3, h4, h5, h6, h7, h8, hl, hg, hw⟩ := h
  have hc := (bcell hb).1
  exact ⟨by rw [hc _ _ hg]; exact h0, by rw [hc _ _ hg]; exact h1, by rw [hc _ _ hg]; exact h2, by rw [hc _ _ hg]; exact h3, by rw [hc _ _ hg]; exact h4, by rw [hc _ _ hg]; exact h5, by rw [hc _ _ hg]; exact h6, by rw [hc _ _ hg]; exact h7, by rw [hc _ _ hg]; exact h8, hl.kept hb (Nat.le_refl _), Nat.lt_of_lt_of_le hg hb.size, hw.trans (hb.mono (Nat.le_trans hn hw.size))⟩
set_option maxHeartbeats 4000000 in
set_option maxRecDepth 100000 in
theorem lexAwake : LexAwake := fun w hl => by
  have hT1 : ∀ w, SignsAt w → Calls Tryd.prog 9 #[.string ⟨#[65, 32, 60, 45, 32, 39, 98, 39, 32, 91, 97, 45, 99, 93]⟩] w fun e w' => ∃ g cap, e = .returned (.tuple #[.slice (some ⟨g, 0, none⟩) 5 cap, .nilIface]) ∧ (ExRow g w' ∧ g < w'.heap.size) ∧ Below w.heap.size w w' := fun w h => by
    refine (ptokens_any ⟨#[65, 32, 60, 45, 32, 39, 98, 39, 32, 91, 97, 45, 99, 93]⟩ w (by show 14 ≤ 1050000; omega) h).mono fun e w' hh => ?_
    unfold PToksIs at hh
    rw [show bts ⟨#[65, 32, 60, 45, 32, 39, 98, 39, 32, 91, 97, 45, 99, 93]⟩ = exA from rfl, exA_toks] at hh
    obtain ⟨v, rfl, ho, hb⟩ := hh
    obtain ⟨g, cap, rfl, hx, hg⟩ := ExRow.of ho
    exact ⟨g, cap, rfl, ⟨hx, hg⟩, hb⟩
  have hT2 : ∀ w, SignsAt w → Calls Tryd.prog 9 #[.string ⟨#[39, 98]⟩] w fun e w' => e = .returned (.tuple #[.slice none 0 0, .iface 68 (.agg #[.int .i64 1, .int .i64 0])]) ∧ Below w.heap.size w w' := fun w h => by
    refine (ptokens_any ⟨#[39, 98]⟩ w (by show 2 ≤ 1050000; omega) h).mono fun e w' hh => ?_
    unfold PToksIs at hh
    rw [show bts ⟨#[39, 98]⟩ = [39, 98] from rfl, exB_toks] at hh
    exact hh
  have HT1 := Lib.hid hT1
  have HT2 := Lib.hid hT2
  have HL := Lib.hid hl
  have HB := Lib.hid (Below.refl w.heap.size w)
  clear hT1 hT2 hl
  go_enter Tryd.func8, Tryd.ntmps8
  go_upto_region 5 with (first
    | (go_at_call 9; (with_reducible refine (HT1.out _ HL.out.signs).mono ?_); rintro e w1 ⟨g, cap, rfl, hx, hb⟩; have HX := Lib.hid hx; replace HL := Lib.hid (HL.out.kept hb (Nat.le_refl _)); replace HB := Lib.hid (HB.out.trans (hb.mono HB.out.size)); clear hb hx)
    | (go_at_call 9; (with_reducible refine (HT2.out _ HL.out.signs).mono ?_); rintro e w2 ⟨rfl, hb⟩; replace HX := Lib.hid (And.intro (HX.out.1.below hb HX.out.2) (Nat.lt_of_lt_of_le HX.out.2 hb.size)); replace HL := Lib.hid (HL.out.kept hb (Nat.le_refl _)); replace HB := Lib.hid (HB.out.trans (hb.mono HB.out.size)); clear hb))
  have hR : ∀ w, Calls Tryd.prog 17 #[.int .u8 97, .int .u8 99] w fun e w' => e = .returned (.agg #[.int .u64 (setW (inR 97 100) 0), .int .u64 (setW (inR 97 100) 1), .int .u64 (setW (inR 97 100) 2), .int .u64 (setW (inR 97 100) 3)]) ∧ Below w.heap.size w w' := fun w => range_nat 97 99 w (by decide) (by decide)
  have hx := HX.out.1
  unfold ExRow at hx
  have HX2 := Lib.hid HX.out.2
  generalize setW (inR 97 100) 0 = z0 at hx hR
  generalize setW (inR 97 100) 1 = z1 at hx hR
  generalize setW (inR 97 100) 2 = z2 at hx hR
  generalize setW (inR 97 100) 3 = z3 at hx hR
  have hWr : ∀ w, LexLaid w → Calls Tryd.prog 11 #[.iface 68 (.agg #[.int .i64 1, .int .i64 0]), .int .i64 0] w fun e w' => e = .returned (.bool true) ∧ Below w.heap.size w w' := fun w h => wrong_yes 0 w h.handle
  have hN1 : ∀ w, Calls Tryd.prog 14 #[.string ⟨#[97, 49]⟩] w fun e w' => e = .returned (.bool true) ∧ w' = w := fun w => pname_any ⟨#[97, 49]⟩ w (by show 2 ≤ 2000000; omega)
  have hN2 : ∀ w, Calls Tryd.prog 14 #[.string ⟨#[49, 97]⟩] w fun e w' => e = .returned (.bool false) ∧ w' = w := fun w => pname_any ⟨#[49, 97]⟩ w (by show 2 ≤ 2000000; omega)
  have hK : ∀ w, LexLaid w → Calls Tryd.prog 16 #[.string ⟨#[42]⟩] w fun e w' => e = .returned (.int .i64 7) ∧ w' = w := fun w h => kind_any ⟨#[42]⟩ w h.signs
  have HR := Lib.hid hR
  have HWr := Lib.hid hWr
  have HN1 := Lib.hid hN1
  have HN2 := Lib.hid hN2
  have HK := Lib.hid hK
  have qs := eql_set z0 z1 z2 z3 z0 z1 z2 z3
  have qg := gt_set
  obtain ⟨n, hn⟩ : ∃ n, w.heap.size = n := ⟨_, rfl⟩
  have HB' : Hid (Below n w w2.drew) := Lib.hid (by rw [← hn]; exact HB.out.drew)
  have hS : (fun W : World => W.cell? ⟨g, 0, none⟩ = some (.int .i64 1) ∧ W.cell? ⟨g, 2, none⟩ = some (.string ⟨#[65]⟩) ∧ W.cell? ⟨g, 7, none⟩ = some (.int .i64 2) ∧ W.cell? ⟨g, 16, none⟩ = some (.string ⟨#[98]⟩) ∧ W.cell? ⟨g, 24, none⟩ = some (.int .u64 z0) ∧ W.cell? ⟨g, 25, none⟩ = some (.int .u64 z1) ∧ W.cell? ⟨g, 26, none⟩ = some (.int .u64 z2) ∧ W.cell? ⟨g, 27, none⟩ = some (.int .u64 z3) ∧ W.cell? ⟨g, 28, none⟩ = some (.int .i64 0) ∧ LexLaid W ∧ g < W.heap.size ∧ Below n w W) w2.drew := by
    obtain ⟨h0, h1, h2, h3, h4, h5, h6, h7, h8⟩ := hx
    exact ⟨h0, h1, h2, h3, h4, h5, h6, h7, h8, HL.out, HX2.out, HB'.out⟩
  have hnw : n ≤ w.heap.size := Nat.le_of_eq hn.symm
  have HN0 := Lib.hid hn
  clear hn
  have hS2 := hS
  clear hR hWr hN1 hN2 hK hx HX hS HT1 HT2 HL HB
  have hS := hS2
  clear hS2
  dsimp only at hS
  go_region_held3 (fun W => W.cell? ⟨g, 0, none⟩ = some (.int .i64 1) ∧ W.cell? ⟨g, 2, none⟩ = some (.string ⟨#[65]⟩) ∧ W.cell? ⟨g, 7, none⟩ = some (.int .i64 2) ∧ W.cell? ⟨g, 16, none⟩ = some (.string ⟨#[98]⟩) ∧ W.cell? ⟨g, 24, none⟩ = some (.int .u64 z0) ∧ W.cell? ⟨g, 25, none⟩ = some (.int .u64 z1) ∧ W.cell? ⟨g, 26, none⟩ = some (.int .u64 z2) ∧ W.cell? ⟨g, 27, none⟩ = some (.int .u64 z3) ∧ W.cell? ⟨g, 28, none⟩ = some (.int .i64 0) ∧ LexLaid W ∧ g < W.heap.size ∧ Below n w W) (first | exact hS)
    (first
      | (go_at_call 17; with_reducible refine (HR.out _).mono ?_; rintro ev w3 ⟨rfl, hb⟩; replace hS := exK hnw hb hS; clear hb)
      | (go_at_call 11; with_reducible refine (HWr.out _ hS.2.2.2.2.2.2.2.2.2.1).mono ?_; rintro ev w3 ⟨rfl, hb⟩; replace hS := exK hnw hb hS; clear hb)
      | (go_at_call 14; with_reducible refine (HN1.out _).mono ?_; rintro ev w3 ⟨rfl, hw⟩; obtain rfl := hw.symm; clear hw)
      | (go_at_call 14; with_reducible refine (HN2.out _).mono ?_; rintro ev w3 ⟨rfl, hw⟩; obtain rfl := hw.symm; clear hw)
      | (go_at_call 16; with_reducible refine (HK.out _ hS.2.2.2.2.2.2.2.2.2.1).mono ?_; rintro ev w3 ⟨rfl, hw⟩; obtain rfl := hw.symm; clear hw))
  obtain ⟨-, -, -, -, -, -, -, -, -, -, -, hbw⟩ := hS
  have HBW := Lib.hid hbw
  clear hbw
  go_wp2
  go_ret
  exact ⟨rfl, by rw [HN0.out]; exact HBW.out⟩
end Go.Proofs.YtipokoalcbaolaaDoor
