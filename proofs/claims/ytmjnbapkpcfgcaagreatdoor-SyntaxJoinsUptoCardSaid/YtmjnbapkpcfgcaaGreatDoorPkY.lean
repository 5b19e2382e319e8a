/- The law package's wrong, at a fault that is the one it asks for. What the rows lay. The law package's wrong; the fixed examples hold. -/
import Derived.Test.YtmjnbapkpcfgcaaGreatDoorPkLexStr
import Derived.Test.YtmjnbapkpcfgcaaGreatDoorPkJ
import Derived.Test.YtmjnbapkpcfgcaaGreatDoorPkK
import Derived.Test.YtmjnbapkpcfgcaaGreatDoorPkW
import Derived.Test.YtmjnbapkpcfgcaaGreatDoorPkP
namespace Go.Proofs.YtmjnbapkpcfgcaaGreatDoor
open Go.RowKit
/-- The two listed variables hold what the program's text lays in them. -/
def LexLaid (w : World) : Prop := w.cell? ⟨0, 0, none⟩ = some (rt 29) ∧ SignsAt w
theorem LexLaid.kept {n : Nat} {w w' : World} (h : LexLaid w) (hb : Below n w w') (hn : w.heap.size ≤ n) : LexLaid w' :=
  ⟨by have := lt_of_cell h.1; rw [(bcell hb).1 _ _ (by omega)]; exact h.1, h.2.kept hb hn⟩
end Go.Proofs.YtmjnbapkpcfgcaaGreatDoor
namespace Go.Proofs.YtmjnbapkpcfgcaaGreatDoor
section
open Go.RowKit
set_option maxHeartbeats 1000000 in
theorem wrong8_yes (c : Int) (k : Nat) (w : World) (hl : LexLaid w) :
    Calls Tryz.prog 13 #[.iface 92 (.agg #[.int .i64 c, .int .i64 (k : Int)]), .int .i64 c, .int .i64 (k : Int)] w fun e w' => e = .returned (.bool true) ∧ Below w.heap.size w w' := by
  have hC : Calls Tryz.prog 25 #[.iface 92 (.agg #[.int .i64 c, .int .i64 (k : Int)])] w fun ev w' => ev = .returned (.tuple #[.int .i64 c, .bool true]) ∧ Below w.heap.size w w' := Code_some (.fault c (k : Int)) c w rfl trivial hl.1
  have hA : ∀ w, w.cell? ⟨0, 0, none⟩ = some (rt 29) → Calls Tryz.prog 26 #[.iface 92 (.agg #[.int .i64 c, .int .i64 (k : Int)])] w fun ev w' => ev = .returned (.tuple #[.int .i64 (k : Int), .bool true]) ∧ Below w.heap.size w w' := fun w h => At_some (.fault c (k : Int)) c (k : Int) w rfl trivial h
  have HC := Lib.hid hC
  have HA := Lib.hid hA
  have HG := Lib.hid hl.1
  clear hC hA hl
  go_enter Tryz.func13, Tryz.ntmps13
  go_wp2_with (first
    | (go_at_call 25; (with_reducible refine HC.out.mono ?_); rintro e w1 ⟨rfl, hb1⟩; have HB1 := Lib.hid hb1; have HG1 : Hid (w1.cell? ⟨0, 0, none⟩ = some (rt 29)) := Lib.hid (by have := lt_of_cell HG.out; rw [(bcell hb1).1 _ _ this]; exact HG.out); clear hb1)
    | (go_at_call 26; (with_reducible refine (HA.out _ HG1.out).mono ?_); rintro e w2 ⟨rfl, hb2⟩; have HB2 := Lib.hid hb2; clear hb2))
  go_ret
  exact ⟨rfl, HB1.out.trans (HB2.out.mono HB1.out.size)⟩
theorem own_some {w : World} {base n sz : Nat} {e : TypeId} {v : Value} {xs : List Value} (h : w.ownsRow base e sz v (n + 1) xs) : ∃ g c, v = .slice (some ⟨g, 0, none⟩) (n + 1) c := by
  rcases h.2 with ⟨-, h0⟩ | ⟨g, cap, cur, rfl, -⟩
  · cases h0
  · exact ⟨g, cap, rfl⟩
def nodesE : List PN := [clsN (fun i => decide (i = 97)), clsN (fun i => decide (i = 98)), mkN 3 [0, 1], callN 0, mkN 3 [2, 3], mkN 0 [], mkN 4 [4, 5]]
def fileC : MF := ⟨nodesE, [([65], 10)]⟩
def fileE : MF := ⟨[callN 0, mkN 5 [0]], [([97], 0)]⟩
/-- The first file in memory. -/
def AC (g1 g2 g3 c1 c2 c3 : Nat) (W : World) : Prop := FileIn W (.slice (some ⟨g2, 0, none⟩) 1 c2) (.slice (some ⟨g1, 0, none⟩) 7 c1) (.slice (some ⟨g3, 0, none⟩) 1 c3) [([65], 0, 6)] fileC ∧
  W.cell? ⟨g1, 28, none⟩ = some (.int .i64 3) ∧ W.cell? ⟨g1, 35, none⟩ = some (.int .i64 0) ∧ W.cell? ⟨g1, 42, none⟩ = some (.int .i64 4) ∧ W.cell? ⟨g3, 0, none⟩ = some (.string ⟨#[65]⟩) ∧ W.cell? ⟨g3, 1, none⟩ = some (.int .i64 10) ∧ W.cell? ⟨g2, 0, none⟩ = some (.string ⟨#[65]⟩) ∧ W.cell? ⟨g2, 1, none⟩ = some (.int .i64 ((0 : Nat) : Int)) ∧ W.cell? ⟨g2, 2, none⟩ = some (.int .i64 6)
/-- The expression in memory. -/
def AE (g4 g5 : Nat) (W : World) : Prop := W.cell? ⟨g4, 0, none⟩ = some (.string ⟨#[]⟩) ∧ W.cell? ⟨g4, 1, none⟩ = some (.int .i64 ((0 : Nat) : Int)) ∧ W.cell? ⟨g4, 2, none⟩ = some (.int .i64 1) ∧ W.cell? ⟨g5, 7, none⟩ = some (.int .i64 5)
theorem cell_below {W W' : World} (hb : Below W.heap.size W W') {b o : Nat} {u : Value} (h : W.cell? ⟨b, o, none⟩ = some u) : W'.cell? ⟨b, o, none⟩ = some u := by
  rw [(bcell hb).1 _ _ (lt_of_cell h)]
  exact h
theorem AC.below {g1 g2 g3 c1 c2 c3 : Nat} {W W' : World} (h : AC g1 g2 g3 c1 c2 c3 W) (hb : Below W.heap.size W W') : AC g1 g2 g3 c1 c2 c3 W' := by
  obtain ⟨h0, h1, h2, h3, h4, h5, h6, h7, h8⟩ := h
  exact ⟨h0.below hb, cell_below hb h1, cell_below hb h2, cell_below hb h3, cell_below hb h4, cell_below hb h5, cell_below hb h6, cell_below hb h7, cell_below hb h8⟩
theorem AC.file {g1 g2 g3 c1 c2 c3 : Nat} {W : World} (h : AC g1 g2 g3 c1 c2 c3 W) : FileIn W (.slice (some ⟨g2, 0, none⟩) 1 c2) (.slice (some ⟨g1, 0, none⟩) 7 c1) (.slice (some ⟨g3, 0, none⟩) 1 c3) [([65], 0, 6)] fileC := h.1
theorem AE.below {g4 g5 : Nat} {W W' : World} (h : AE g4 g5 W) (hb : Below W.heap.size W W') : AE g4 g5 W' := by
  obtain ⟨h1, h2, h3, h4⟩ := h
  exact ⟨cell_below hb h1, cell_below hb h2, cell_below hb h3, cell_below hb h4⟩
theorem node_op {W : World} {base g c n : Nat} {ns : List PN} {qs : List Value} (h : NRow base (.slice (some ⟨g, 0, none⟩) n c) ns qs W) {i : Nat} {m : PN} (hm : ns[i]? = some m) : W.cell? ⟨g, i * 7, none⟩ = some (.int .i64 m.op) := by
  have hi := (List.getElem?_eq_some_iff.1 hm).1
  obtain ⟨q, hq⟩ : ∃ q, qs[i]? = some q := ⟨_, List.getElem?_eq_getElem (by rw [h.1]; exact hi)⟩
  have hz : (ns.zip qs)[i]? = some (m, q) := List.getElem?_zip_eq_some.2 ⟨hm, hq⟩
  have e := flat_at nodeC 7 (fun _ => rfl) (ns.zip qs) i (m, q) 0 hz (by decide)
  have := h.2.1.cells rfl (i * 7 + 0) _ e
  rw [Addr.add_lit, Nat.zero_add] at this
  exact this
theorem FileIn.of {W : World} {rv nv cv : Value} {qs : List Value} {rs : List (List Nat × Nat × Int)} {f : MF} {base : Nat} {t1 t2 : TypeId} (h1 : NRow base nv f.nodes qs W) (h2 : W.ownsRow base t1 2 cv f.calls.length (namesC f.calls)) (h3 : W.ownsRow base t2 3 rv rs.length (defsC rs)) (hr : rs.length ≤ maxLen) (hc : f.calls.length ≤ maxLen) (hl : f.nodes.length ≤ maxLen) (hk : ∀ n, n ∈ f.nodes → n.kids.length ≤ maxLen) : FileIn W rv nv cv rs f :=
  ⟨⟨hr, hc⟩, CellsAt.of_own h3, h1.nodes hl hk, CellsAt.of_own h2⟩
theorem ac_of {w w' : World} {e : Ending} (h : ParseIs (.ok [([65], 0, 6)] fileC) w e w') : ∃ g1 g2 g3 c1 c2 c3, e = .returned (.tuple #[.agg #[.slice (some ⟨g2, 0, none⟩) 1 c2, .slice (some ⟨g1, 0, none⟩) 7 c1, .slice (some ⟨g3, 0, none⟩) 1 c3], .nilIface]) ∧ AC g1 g2 g3 c1 c2 c3 w' ∧ Below w.heap.size w w' := by
  obtain ⟨rv, nv, cv, qs, rfl, h1, h2, h3, h4⟩ := h
  obtain ⟨g1, c1, rfl⟩ := own_some (n := 6) h1.2.1
  obtain ⟨g3, c3, rfl⟩ := own_some (n := 0) h2
  obtain ⟨g2, c2, rfl⟩ := own_some (n := 0) h3
  have a : ∀ j u, (defsC [([65], 0, 6)])[j]? = some u → w'.cell? ⟨g2, j, none⟩ = some u := fun j u hu => by
    have := h3.cells rfl j u hu
    rw [Addr.add_lit, Nat.zero_add] at this
    exact this
  have b : ∀ j u, (namesC fileC.calls)[j]? = some u → w'.cell? ⟨g3, j, none⟩ = some u := fun j u hu => by
    have := h2.cells rfl j u hu
    rw [Addr.add_lit, Nat.zero_add] at this
    exact this
  exact ⟨g1, g2, g3, c1, c2, c3, rfl, ⟨FileIn.of h1 h2 h3 (by decide) (by decide) (by decide) (by
    intro n hn
    have : ∀ n, n ∈ nodesE → n.kids.length ≤ 2 := by decide
    exact Nat.le_trans (this n hn) (by decide)), node_op h1 (i := 4) rfl, node_op h1 (i := 5) rfl, node_op h1 (i := 6) rfl, b 0 _ rfl, b 1 _ rfl, a 0 _ rfl, a 1 _ rfl, a 2 _ rfl⟩, h4⟩
theorem ae_of {w w' : World} {e : Ending} (h : ParseIs (.ok [([], 0, 1)] fileE) w e w') : ∃ g4 g5 g6 c4 c5 c6, e = .returned (.tuple #[.agg #[.slice (some ⟨g4, 0, none⟩) 1 c4, .slice (some ⟨g5, 0, none⟩) 2 c5, .slice (some ⟨g6, 0, none⟩) 1 c6], .nilIface]) ∧ AE g4 g5 w' ∧ Below w.heap.size w w' := by
  obtain ⟨rv, nv, cv, qs, rfl, h1, h2, h3, h4⟩ := h
  obtain ⟨g5, c5, rfl⟩ := own_some (n := 1) h1.2.1
  obtain ⟨g6, c6, rfl⟩ := own_some (n := 0) h2
  obtain ⟨g4, c4, rfl⟩ := own_some (n := 0) h3
  have a : ∀ j u, (defsC [([], 0, 1)])[j]? = some u → w'.cell? ⟨g4, j, none⟩ = some u := fun j u hu => by
    have := h3.cells rfl j u hu
    rw [Addr.add_lit, Nat.zero_add] at this
    exact this
  exact ⟨g4, g5, g6, c4, c5, c6, rfl, ⟨a 0 _ rfl, a 1 _ rfl, a 2 _ rfl, node_op h1 (i := 1) rfl⟩, h4⟩
theorem str_ne8 : ((⟨#[65]⟩ : ByteArray).toList == (⟨#[]⟩ : ByteArray).toList) = false := by
  rw [str_beq]
  decide
set_option maxHeartbeats 8000000 in
set_option maxRecDepth 100000 in
theorem awake8_any (w : World) (hl : LexLaid w) : Calls Tryz.prog 8 #[] w fun e w' => e = .returned (.bool true) ∧ Below w.heap.size w w' := by
  have h1 := fun (W : World) (hb : Below w.heap.size w W) => (show Calls Tryz.prog 9 #[.string ⟨#[65, 32, 60, 45, 32, 39, 97, 98, 39, 32, 65, 32, 47]⟩] W _ from (pParse_any ⟨#[65, 32, 60, 45, 32, 39, 97, 98, 39, 32, 65, 32, 47]⟩ W (hl.2.kept hb (Nat.le_refl _)) (by decide)).mono fun e w' h => ac_of (by
    rw [show bts ⟨#[65, 32, 60, 45, 32, 39, 97, 98, 39, 32, 65, 32, 47]⟩ = exC from rfl, exC_file] at h
    exact h))
  have h2 := fun (W : World) (hb : Below w.heap.size w W) => (show Calls Tryz.prog 9 #[.string ⟨#[65, 32, 60, 45, 32, 40, 66, 32, 60, 45, 32, 99]⟩] W (fun e w' => e = .returned (.tuple #[.agg #[.slice none 0 0, .slice none 0 0, .slice none 0 0], .iface 92 (.agg #[.int .i64 1, .int .i64 8])]) ∧ Below W.heap.size W w') from (pParse_any ⟨#[65, 32, 60, 45, 32, 40, 66, 32, 60, 45, 32, 99]⟩ W (hl.2.kept hb (Nat.le_refl _)) (by decide)).mono fun e w' h => by
    rw [show bts ⟨#[65, 32, 60, 45, 32, 40, 66, 32, 60, 45, 32, 99]⟩ = exD from rfl] at h
    obtain ⟨tl, hd⟩ := exD_file
    rw [hd] at h
    exact h)
  have h3 := fun (W : World) (hb : Below w.heap.size w W) => (show Calls Tryz.prog 14 #[.string ⟨#[97, 42]⟩] W _ from (pExpression_any ⟨#[97, 42]⟩ W (hl.2.kept hb (Nat.le_refl _)) (by decide)).mono fun e w' h => ae_of (by
    rw [show bts ⟨#[97, 42]⟩ = exE from rfl, exE_file] at h
    exact h))
  have h4 := fun (W : World) (hb : Below w.heap.size w W) => (show Calls Tryz.prog 13 #[.iface 92 (.agg #[.int .i64 1, .int .i64 8]), .int .i64 1, .int .i64 8] W _ from wrong8_yes 1 8 W (hl.kept hb (Nat.le_refl _)))
  have H1 := Lib.hid h1
  have H2 := Lib.hid h2
  have H3 := Lib.hid h3
  have H4 := Lib.hid h4
  have HB0 := Lib.hid (Below.refl w.heap.size w)
  clear h1 h2 h3 h4 hl
  go_enter Tryz.func8, Tryz.ntmps8
  go_upto_region 4 with (first
    | (go_at_call 9; (with_reducible refine (H1.out _ HB0.out).mono ?_); rintro e w1 ⟨g1, g2, g3, c1, c2, c3, rfl, hA, hb⟩; have HA1 := Lib.hid (hA.below (one_new w1 (.cells #[.slice (some ⟨g2, 0, none⟩) 1 c2, .slice (some ⟨g1, 0, none⟩) 7 c1, .slice (some ⟨g3, 0, none⟩) 1 c3] 27))); have HB1 := Lib.hid (hb.trans ((one_new w1 (.cells #[.slice (some ⟨g2, 0, none⟩) 1 c2, .slice (some ⟨g1, 0, none⟩) 7 c1, .slice (some ⟨g3, 0, none⟩) 1 c3] 27)).mono hb.size)); have HF1 := Lib.hid (Bl.new w1 27 #[.slice (some ⟨g2, 0, none⟩) 1 c2, .slice (some ⟨g1, 0, none⟩) 7 c1, .slice (some ⟨g3, 0, none⟩) 1 c3]); clear hA hb)
    | (go_at_call 9; (with_reducible refine (H2.out _ HB1.out).mono ?_); rintro e w2 ⟨rfl, hb⟩; have hb2 := hb.trans ((one_new w2 (.cells #[.slice none 0 0, .slice none 0 0, .slice none 0 0] 27)).mono hb.size); have HA2 := Lib.hid (HA1.out.below hb2); have HF2 := Lib.hid (HF1.out.below hb2); have HB2 := Lib.hid (HB1.out.trans (hb2.mono HB1.out.size)); clear hb hb2)
    | (go_at_call 14; (with_reducible refine (H3.out _ HB2.out).mono ?_); rintro e w3 ⟨g4, g5, g6, c4, c5, c6, rfl, hE, hb⟩; have hb3 := hb.trans ((one_new w3 (.cells #[.slice (some ⟨g4, 0, none⟩) 1 c4, .slice (some ⟨g5, 0, none⟩) 2 c5, .slice (some ⟨g6, 0, none⟩) 1 c6] 27)).mono hb.size); have HA3 := Lib.hid (HA2.out.below hb3); have HF3 := Lib.hid (HF2.out.below hb3); have HE3 := Lib.hid (hE.below (one_new w3 (.cells #[.slice (some ⟨g4, 0, none⟩) 1 c4, .slice (some ⟨g5, 0, none⟩) 2 c5, .slice (some ⟨g6, 0, none⟩) 1 c6] 27))); have HG3 := Lib.hid (Bl.new w3 27 #[.slice (some ⟨g4, 0, none⟩) 1 c4, .slice (some ⟨g5, 0, none⟩) 2 c5, .slice (some ⟨g6, 0, none⟩) 1 c6]); have HB3 := Lib.hid (HB2.out.trans (hb3.mono HB2.out.size)); clear hb hb3 hE))
  obtain ⟨W3, hW3⟩ : ∃ W3, w3.alloc (.cells #[.slice (some ⟨g4, 0, none⟩) 1 c4, .slice (some ⟨g5, 0, none⟩) 2 c5, .slice (some ⟨g6, 0, none⟩) 1 c6] 27) = W3 := ⟨_, rfl⟩
  obtain ⟨F1, hF1⟩ : ∃ F1, w1.heap.size = F1 := ⟨_, rfl⟩
  obtain ⟨F3, hF3⟩ : ∃ F3, w3.heap.size = F3 := ⟨_, rfl⟩
  rw [hW3] at HA3 HF3 HE3 HG3 HB3
  rw [hF1] at HF3
  rw [hF3] at HG3
  rw [hW3, hF1, hF3]
  clear hW3 hF1 hF3 HA1 HA2 HF1 HF2 HB1 HB2
  have f0 := HF3.out.cell (o := 0) (u := .slice (some ⟨g2, 0, none⟩) 1 c2) rfl
  have f1 := HF3.out.cell (o := 1) (u := .slice (some ⟨g1, 0, none⟩) 7 c1) rfl
  have f2 := HF3.out.cell (o := 2) (u := .slice (some ⟨g3, 0, none⟩) 1 c3) rfl
  have e0 := HG3.out.cell (o := 0) (u := .slice (some ⟨g4, 0, none⟩) 1 c4) rfl
  have e1 := HG3.out.cell (o := 1) (u := .slice (some ⟨g5, 0, none⟩) 2 c5) rfl
  have e2 := HG3.out.cell (o := 2) (u := .slice (some ⟨g6, 0, none⟩) 1 c6) rfl
  have fl := HF3.out.lt
  have el := HG3.out.lt
  have q1 : ∀ w, (binOp .eql 58 (.agg #[.string ⟨#[65]⟩, .int .i64 10]) (.agg #[.string ⟨#[65]⟩, .int .i64 10])).run Tryz.prog w = .ok (.bool true) w := fun w => by rw [sneql]; simp
  have HSN := Lib.hid q1
  clear q1
  go_wp2_with (first
    | (with_reducible refine gwpList_agg BinOp.eql 58 _ _ _ rfl rfl _ _ rfl rfl sngt _ (HSN.out _) ?_)
    | (go_at_call 13; (with_reducible refine (H4.out _ HB3.out).mono ?_); rintro e w4 ⟨rfl, hb⟩; have HA4 := Lib.hid (HA3.out.below hb); have HF4 := Lib.hid (HF3.out.below hb); have HE4 := Lib.hid (HE3.out.below hb); have HG4 := Lib.hid (HG3.out.below hb); have HB4 := Lib.hid (HB3.out.trans (hb.mono HB3.out.size)); clear hb f0 f1 f2 e0 e1 e2 fl el; have f0 := HF4.out.cell (o := 0) (u := .slice (some ⟨g2, 0, none⟩) 1 c2) rfl; have f1 := HF4.out.cell (o := 1) (u := .slice (some ⟨g1, 0, none⟩) 7 c1) rfl; have f2 := HF4.out.cell (o := 2) (u := .slice (some ⟨g3, 0, none⟩) 1 c3) rfl; have e0 := HG4.out.cell (o := 0) (u := .slice (some ⟨g4, 0, none⟩) 1 c4) rfl; have e1 := HG4.out.cell (o := 1) (u := .slice (some ⟨g5, 0, none⟩) 2 c5) rfl; have e2 := HG4.out.cell (o := 2) (u := .slice (some ⟨g6, 0, none⟩) 1 c6) rfl; have fl := HF4.out.lt; have el := HG4.out.lt; obtain ⟨-, a1, a2, a3, a4, a5, a6, a7, a8⟩ := HA4.out; obtain ⟨b1, b2, b3, b4⟩ := HE4.out; have l1 := lt_of_cell a1; have l2 := lt_of_cell a4; have l3 := lt_of_cell a6; have l4 := lt_of_cell b1; have l5 := lt_of_cell b4)
    | (go_at_call 16; (with_reducible refine (sSame_true _ _ _ _ _ _ _ _ _ HA4.out.file HA4.out.file).mono ?_); rintro e w5 ⟨rfl, hb⟩; have HA5 := Lib.hid (HA4.out.below hb); have HF5 := Lib.hid (HF4.out.below hb); have HE5 := Lib.hid (HE4.out.below hb); have HG5 := Lib.hid (HG4.out.below hb); have HB5 := Lib.hid (HB4.out.trans (hb.mono HB4.out.size)); clear hb f0 f1 f2 e0 e1 e2 fl el; have f0 := HF5.out.cell (o := 0) (u := .slice (some ⟨g2, 0, none⟩) 1 c2) rfl; have f1 := HF5.out.cell (o := 1) (u := .slice (some ⟨g1, 0, none⟩) 7 c1) rfl; have f2 := HF5.out.cell (o := 2) (u := .slice (some ⟨g3, 0, none⟩) 1 c3) rfl; have e0 := HG5.out.cell (o := 0) (u := .slice (some ⟨g4, 0, none⟩) 1 c4) rfl; have e1 := HG5.out.cell (o := 1) (u := .slice (some ⟨g5, 0, none⟩) 2 c5) rfl; have e2 := HG5.out.cell (o := 2) (u := .slice (some ⟨g6, 0, none⟩) 1 c6) rfl; have fl := HF5.out.lt; have el := HG5.out.lt; have HN5 := Lib.hid (fun (W : World) (hW : Below w5.heap.size w5 W) => eqDefs_ne g2 g4 0 0 c2 c4 ⟨#[65]⟩ ⟨#[]⟩ 0 0 6 1 W str_ne8 (cell_below hW HA5.out.2.2.2.2.2.2.1) (cell_below hW HA5.out.2.2.2.2.2.2.2.1) (cell_below hW HA5.out.2.2.2.2.2.2.2.2) (cell_below hW HE5.out.1) (cell_below hW HE5.out.2.1) (cell_below hW HE5.out.2.2.1)))
    | (go_at_call 16; (with_reducible refine (sSame_ne _ _ _ _ _ _ _ _ _ _ HN5.out).mono ?_); rintro e w6 ⟨rfl, hb⟩; have HB6 := Lib.hid (HB5.out.trans (hb.mono HB5.out.size)); clear hb))
  go_ret
  exact ⟨rfl, HB6.out⟩
end
end Go.Proofs.YtmjnbapkpcfgcaaGreatDoor
