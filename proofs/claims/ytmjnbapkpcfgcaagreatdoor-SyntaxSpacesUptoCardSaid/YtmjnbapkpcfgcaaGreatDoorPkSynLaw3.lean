/- SyntaxSpaces. -/
import Derived.Test.YtmjnbapkpcfgcaaGreatDoorPkZ
import Derived.Test.YtmjnbapkpcfgcaaGreatDoorPkSynLawC
import Derived.Test.YtmjnbapkpcfgcaaGreatDoorPkSynBnd
import Derived.Deep.Cut
namespace Go.Proofs.YtmjnbapkpcfgcaaGreatDoor
section
open Go.RowKit
/-- The four kinds of spacing. -/
def spK : List ByteArray := [⟨#[]⟩, ⟨#[32]⟩, ⟨#[10, 9]⟩, ⟨#[35, 32, 99, 10]⟩]
theorem spK_spc (j : Nat) (h : j < 4) : Spc (bts (spK.getD j ⟨#[]⟩)) := by
  rcases (by omega : j = 0 ∨ j = 1 ∨ j = 2 ∨ j = 3) with rfl | rfl | rfl | rfl
  · exact spc_nil
  · exact spc_cons (c := 32) (by decide) spc_nil
  · exact spc_cons (c := 10) (by decide) (spc_cons (c := 9) (by decide) spc_nil)
  · exact spc_com (p := [32, 99, 10]) (m := 2) (q := [10]) rfl rfl (spc_cons (by decide) spc_nil)
theorem spK_size (j : Nat) (h : j < 4) : (spK.getD j ⟨#[]⟩).size ≤ 5 := by
  rcases (by omega : j = 0 ∨ j = 1 ∨ j = 2 ∨ j = 3) with rfl | rfl | rfl | rfl
  · show 0 ≤ 5; omega
  · show 1 ≤ 5; omega
  · show 2 ≤ 5; omega
  · show 4 ≤ 5; omega
/-- A store into a row of the caller's own. -/
theorem own_set8 {W : World} {base : Nat} {e : TypeId} {size n c g j : Nat} {xs : List Value} (h : W.ownsRow base e size (.slice (some ⟨g, 0, none⟩) n c) n xs) (u : Value) : (W.setCell ⟨g, j, none⟩ u).ownsRow base e size (.slice (some ⟨g, 0, none⟩) n c) n (xs.set j u) := by
  obtain ⟨hl, h⟩ := h
  refine ⟨by rw [List.length_set]; exact hl, ?_⟩
  rcases h with ⟨h, -⟩ | ⟨g', cap, cur, hv, hb, hh, h1, h2, h3, h4⟩
  · cases h
  · injection hv with e1 e2 e3
    injection e1 with e1
    injection e1 with e1
    subst e1 e3
    refine .inr ⟨g, c, cur.setIfInBounds j u, rfl, hb, heap_setCell_same W g j _ _ u hh, h1, h2, by simpa using h3, ?_⟩
    rw [← h4]
    rw [Array.toList_setIfInBounds, List.take_set]
theorem own_open8 {W : World} {base : Nat} {e : TypeId} {size n c : Nat} {a : Option Addr} {xs : List Value} (h : W.ownsRow base e size (.slice a n c) n xs) (hn : 0 < n) : ∃ g, a = some ⟨g, 0, none⟩ ∧ base ≤ g ∧ g < W.heap.size ∧ (∀ j u, xs[j]? = some u → W.cell? ⟨g, j, none⟩ = some u) ∧ (∀ o, W.frozen? ⟨g, o, none⟩ = false) ∧ ∃ cs, W.heap[g]? = some (.cells cs e (0, 0)) := by
  have h' := h
  rcases h.2 with ⟨-, e0⟩ | ⟨g, cap, cur, e, hb, hh, -⟩
  · omega
  · injection e with e1 e2 e3
    subst e1 e3
    exact ⟨g, rfl, hb, (Array.getElem?_eq_some_iff.1 hh).1, fun j u hu => by have := h'.cells rfl j u hu; rw [Addr.add_lit, Nat.zero_add] at this; exact this, fun o => h'.frozenAt o, cur, hh⟩
/-- The first k are as they were, the others are moved. -/
def bkL {α : Type} (m : α → α) (k : Nat) (l : List α) : List α := l.take k ++ (l.drop k).map m
theorem bk_at {α : Type} {m : α → α} {k : Nat} {l : List α} {x : α} (h : l[k]? = some x) : (bkL m k l)[k]? = some (m x) := by
  have hk := (List.getElem?_eq_some_iff.1 h).1
  unfold bkL
  rw [List.getElem?_append_right (by rw [List.length_take]; omega), List.length_take, Nat.min_eq_left (by omega), Nat.sub_self, List.getElem?_map, List.getElem?_drop, Nat.add_zero, h]
  rfl
theorem set_mid {α : Type} (A B c : List α) (n j : Nat) (hn : A.length = n) (hj : j < c.length) (u : α) : (A ++ (c ++ B)).set (n + j) u = A ++ (c.set j u ++ B) := by
  subst hn
  rw [List.set_append_right _ _ (by omega), Nat.add_sub_cancel_left, List.set_append_left _ _ hj]
theorem flat_len {α : Type} {F : α → List Value} {n : Nat} (hF : ∀ x, (F x).length = n) : ∀ l : List α, (l.flatMap F).length = l.length * n
  | [] => by simp
  | x :: r => by rw [List.flatMap_cons, List.length_append, hF, flat_len hF r, List.length_cons, Nat.succ_mul, Nat.add_comm]
theorem bk_set {α : Type} {m : α → α} {F : α → List Value} {n j : Nat} (hF : ∀ x, (F x).length = n) (hj : j < n) {k : Nat} {l : List α} {x : α} (h : l[k]? = some x) (u : Value) (hu : (F (m x)).set j u = F x) :
    ((bkL m k l).flatMap F).set (k * n + j) u = (bkL m (k + 1) l).flatMap F := by
  have hk := (List.getElem?_eq_some_iff.1 h).1
  have e1 : l.drop k = x :: l.drop (k + 1) := by
    rw [List.drop_eq_getElem_cons hk]
    congr 1
    exact (List.getElem?_eq_some_iff.1 h).2
  have e2 : l.take (k + 1) = l.take k ++ [x] := by
    rw [List.take_add_one, h]
    rfl
  unfold bkL
  rw [e1, e2, List.map_cons, List.flatMap_append, List.flatMap_cons, set_mid _ _ _ (k * n) j (by rw [flat_len hF, List.length_take, Nat.min_eq_left (by omega)]) (by rw [hF]; exact hj), hu, List.flatMap_append, List.flatMap_append, List.append_assoc]
  simp
theorem bk_none {α : Type} (m : α → α) (l : List α) : bkL m 0 l = l.map m := rfl
theorem bk_all {α : Type} (m : α → α) (l : List α) : bkL m l.length l = l := by
  unfold bkL
  rw [List.take_length, List.drop_length, List.map_nil, List.append_nil]
def mvD (d : Nat) (r : List Nat × Nat × Int) : List Nat × Nat × Int := (r.1, r.2.1 + d, r.2.2)
def mvC (d : Nat) (c : List Nat × Nat) : List Nat × Nat := (c.1, c.2 + d)
/-- What back makes of a file, with its own rows. -/
theorem back_own {w w' : World} {rs : List (List Nat × Nat × Int)} {f : MF} {nv : Value} {e : Ending} (k : BackF w rs f nv e w') : ∃ va vc ca cc, e = .returned (.agg #[.slice va rs.length vc, nv, .slice ca f.calls.length cc]) ∧ w'.ownsRow w.heap.size 45 3 (.slice va rs.length vc) rs.length (defsC rs) ∧ w'.ownsRow w.heap.size 47 2 (.slice ca f.calls.length cc) f.calls.length (namesC f.calls) ∧ Below w.heap.size w w' := by
  obtain ⟨rv', cv', rfl, h1, h2, h3⟩ := k
  obtain ⟨va, vc, rfl⟩ := own_slice' h1
  obtain ⟨ca, cc, rfl⟩ := own_slice' h2
  exact ⟨va, vc, ca, cc, rfl, h1, h2, h3⟩
/-- The file that back made, while its positions are moved. -/
def Sp (W5 : World) (F3 : Nat) (c3 : Array Value) (rv cv : Value) (n m : Nat) (ds ns : List Value) (wr : World) : Prop :=
  wr.ownsRow W5.heap.size 45 3 rv n ds ∧ wr.ownsRow W5.heap.size 47 2 cv m ns ∧ Bl wr F3 35 c3 ∧ Below W5.heap.size W5 wr
theorem Sp.defs {W5 wr : World} {F3 : Nat} {c3 : Array Value} {cv : Value} {g n m c : Nat} {ds ns : List Value} (h : Sp W5 F3 c3 (.slice (some ⟨g, 0, none⟩) n c) cv n m ds ns wr) (hn : 0 < n) (j : Nat) (u : Value) : Sp W5 F3 c3 (.slice (some ⟨g, 0, none⟩) n c) cv n m (ds.set j u) ns (wr.setCell ⟨g, j, none⟩ u) := by
  obtain ⟨h1, h2, h3, h4⟩ := h
  obtain ⟨g', e, hb, hl, -, -, cs, hcs⟩ := own_open8 h1 hn
  obtain rfl : g' = g := by injection e with e; injection e with e; exact e.symm
  have hB : Bl wr g' 45 cs := hcs
  exact ⟨own_set8 h1 u, ownsRow_setCell_other h2 (a := ⟨g', j, none⟩) (own_ne h2 hB (by decide)) u, h3.other (fun e => by subst e; unfold Bl at h3 hB; rw [h3] at hB; injection hB with hB; injection hB with _ hB; exact absurd hB (by decide)) u, h4.setCell (p := ⟨g', j, none⟩) hb u⟩
theorem Sp.names {W5 wr : World} {F3 : Nat} {c3 : Array Value} {rv : Value} {g n m c : Nat} {ds ns : List Value} (h : Sp W5 F3 c3 rv (.slice (some ⟨g, 0, none⟩) m c) n m ds ns wr) (hm : 0 < m) (j : Nat) (u : Value) : Sp W5 F3 c3 rv (.slice (some ⟨g, 0, none⟩) m c) n m ds (ns.set j u) (wr.setCell ⟨g, j, none⟩ u) := by
  obtain ⟨h1, h2, h3, h4⟩ := h
  obtain ⟨g', e, hb, hl, -, -, cs, hcs⟩ := own_open8 h2 hm
  obtain rfl : g' = g := by injection e with e; injection e with e; exact e.symm
  have hB : Bl wr g' 47 cs := hcs
  exact ⟨ownsRow_setCell_other h1 (a := ⟨g', j, none⟩) (own_ne h1 hB (by decide)) u, own_set8 h2 u, h3.other (fun e => by subst e; unfold Bl at h3 hB; rw [h3] at hB; injection hB with hB; injection hB with _ hB; exact absurd hB (by decide)) u, h4.setCell (p := ⟨g', j, none⟩) hb u⟩
theorem Sp.drew {W5 wr : World} {F3 : Nat} {c3 : Array Value} {rv cv : Value} {n m : Nat} {ds ns : List Value} (h : Sp W5 F3 c3 rv cv n m ds ns wr) : Sp W5 F3 c3 rv cv n m ds ns wr.drew := by
  obtain ⟨h1, h2, h3, h4⟩ := h
  exact ⟨ownsRow_grown h1 (Below.drew (Below.refl _ _)), ownsRow_grown h2 (Below.drew (Below.refl _ _)), h3.drew, Below.drew h4⟩
set_option maxHeartbeats 8000000 in
set_option maxRecDepth 100000 in
theorem spaces_bad (s : ByteArray) (x : Nat) (w : World) (hs : s.size ≤ 1050000) (hl : LexLaid w) (a : List Tok) (dp : Bool) (hO : rfileL (bts s) = .bad a dp) : Calls Tryz.prog 5 #[.string s, .int .u8 (x : Int)] w fun e w' => e = .returned (.bool true) ∧ Below w.heap.size w w' := by
  have HAW := Lib.hid fun (W : World) (hb : Below w.heap.size w W) => awake8_any W (hl.kept hb (Nat.le_refl _))
  have hb0 := Below.refl w.heap.size w
  have HB0 := Lib.hid hb0
  have HQ := Lib.hid fun (W : World) (_ : Below w.heap.size w W) => (qParse_any s W hs).mono fun e w' h => fin_bad' (by
    rw [hO] at h
    exact h)
  obtain ⟨c, hc⟩ : ∃ c, erC dp = c := ⟨_, rfl⟩
  have ek : (erC dp != 0) = true := by cases dp <;> rfl
  rw [hc] at HQ ek
  by_cases h1 : (1000 : Int) < (s.size : Int)
  all_goals
    clear hO hl hs hb0 hc
    go_enter Tryz.func5, Tryz.ntmps5
    go_wp2_with (first
      | (go_at_call 10; (with_reducible refine (HQ.out _ HB0.out).mono ?_); rintro e w1 ⟨rfl, hb⟩; have hn := one_new w1 (.cells #[.slice none 0 0, .slice none 0 0, .slice none 0 0] 35); have HB1 := Lib.hid ((HB0.out.trans (hb.mono HB0.out.size)).trans (hn.mono (Nat.le_trans HB0.out.size hb.size))); clear hb hn)
      | (go_at_call 8; (with_reducible refine (HAW.out _ HB2.out).mono ?_); rintro e w3 ⟨rfl, hb⟩; have HB3 := Lib.hid (HB2.out.trans (hb.mono HB2.out.size)); clear hb)
      | (go_at_call 8; (with_reducible refine (HAW.out _ HB1.out).mono ?_); rintro e w2 ⟨rfl, hb⟩; have HB2 := Lib.hid (HB1.out.trans (hb.mono HB1.out.size)); clear hb))
    go_ret
    exact ⟨rfl, HB3.out⟩
set_option maxHeartbeats 8000000 in
set_option maxRecDepth 100000 in
theorem spaces_long (s : ByteArray) (x : Nat) (w : World) (hs : s.size ≤ 1050000) (hl : LexLaid w) (rs : List (List Nat × Nat × Int)) (f : MF) (hO : rfileL (bts s) = .ok rs f) (h0 : ¬ s.size ≤ 1000) : Calls Tryz.prog 5 #[.string s, .int .u8 (x : Int)] w fun e w' => e = .returned (.bool true) ∧ Below w.heap.size w w' := by
  have HAW := Lib.hid fun (W : World) (hb : Below w.heap.size w W) => awake8_any W (hl.kept hb (Nat.le_refl _))
  have hb0 := Below.refl w.heap.size w
  have HB0 := Lib.hid hb0
  have HQ := Lib.hid fun (W : World) (_ : Below w.heap.size w W) => (qParse_any s W hs).mono fun e w' h => fin_ok' (by
    rw [hO] at h
    exact h)
  have h1 : (1000 : Int) < (s.size : Int) := by omega
  all_goals
    clear hO hl hs hb0 h0
    go_enter Tryz.func5, Tryz.ntmps5
    go_wp2_with (first
      | (go_at_call 10; (with_reducible refine (HQ.out _ HB0.out).mono ?_); rintro e w1 ⟨vb, vbc, nb, nbc, cb, cbc, rfl, hG, hb⟩; have hn := one_new w1 (.cells #[.slice vb rs.length vbc, .slice nb f.nodes.length nbc, .slice cb f.calls.length cbc] 35); have HG1 := Lib.hid (hG.below hn); have HF1 := Lib.hid (Bl.new w1 35 #[.slice vb rs.length vbc, .slice nb f.nodes.length nbc, .slice cb f.calls.length cbc]); have HB1 := Lib.hid ((HB0.out.trans (hb.mono HB0.out.size)).trans (hn.mono (Nat.le_trans HB0.out.size hb.size))); clear hG hb hn)
      | (go_at_call 8; (with_reducible refine (HAW.out _ HB2.out).mono ?_); rintro e w3 ⟨rfl, hb⟩; have HB3 := Lib.hid (HB2.out.trans (hb.mono HB2.out.size)); clear hb)
      | (go_at_call 8; (with_reducible refine (HAW.out _ HB1.out).mono ?_); rintro e w2 ⟨rfl, hb⟩; have HB2 := Lib.hid (HB1.out.trans (hb.mono HB1.out.size)); clear hb))
    go_ret
    exact ⟨rfl, HB3.out⟩
set_option maxHeartbeats 16000000 in
set_option maxRecDepth 100000 in
theorem spaces_main8 (s : ByteArray) (x : Nat) (w : World) (hx : x ≤ 255) (hs : s.size ≤ 1050000) (hl : LexLaid w) (rs : List (List Nat × Nat × Int)) (f : MF) (hO : rfileL (bts s) = .ok rs f) (h0 : s.size ≤ 1000) : Calls Tryz.prog 5 #[.string s, .int .u8 (x : Int)] w fun e w' => e = .returned (.bool true) ∧ Below w.heap.size w w' := by
  have HAW := Lib.hid fun (W : World) (hb : Below w.heap.size w W) => awake8_any W (hl.kept hb (Nat.le_refl _))
  have hb0 := Below.refl w.heap.size w
  have HB0 := Lib.hid hb0
  have HQ := Lib.hid fun (W : World) (_ : Below w.heap.size w W) => (qParse_any s W hs).mono fun e w' h => fin_ok' (by
    rw [hO] at h
    exact h)
  have h1 : ¬ (1000 : Int) < (s.size : Int) := by omega
  have hBD := rfile_bounds hs hO
  have hAT := rfile_at hO
  rw [bts_length] at hAT
  obtain ⟨j, hj⟩ : ∃ j : Nat, (x : Int) % 4 = (j : Int) := ⟨x % 4, by omega⟩
  have hj4 : j < 4 := by omega
  obtain ⟨P, hP⟩ : ∃ P, spK.getD j ⟨#[]⟩ = P := ⟨_, rfl⟩
  have zP : P.size ≤ 5 := by rw [← hP]; exact spK_size j hj4
  have hsp := file_spaces (p := bts P) (by rw [← hP]; exact spK_spc j hj4) hO
  rw [bts_length, ← bts_append] at hsp
  have hsz : (P ++ s).size ≤ 1050000 := by rw [ByteArray.size_append]; omega
  have s1 : ∀ w, (Op.stringOp .add P s).run Tryz.prog w = .ok (.string (P ++ s)) w := fun w => run_string_add_sum w _ _ (by omega)
  have HR := Lib.hid fun (W : World) (hb : Below w.heap.size w W) => (pParse_any (P ++ s) W (hl.2.kept hb (Nat.le_refl _)) hsz).mono fun e w' h => (show ∃ va vc na nc ca cc, e = .returned (.tuple #[.agg #[.slice va rs.length vc, .slice na f.nodes.length nc, .slice ca f.calls.length cc], .nilIface]) ∧ FileIn w' (.slice va rs.length vc) (.slice na f.nodes.length nc) (.slice ca f.calls.length cc) (rs.map (mvD P.size)) (mvF P.size f) ∧ Below W.heap.size W w' from by
    rw [fileL_eq, hsp] at h
    obtain ⟨va, vc, na, nc, ca, cc, k1, k2, k3⟩ := parse_ok h
    have l1 : (rs.map fun r => (r.1, r.2.1 + P.size, r.2.2)).length = rs.length := List.length_map _
    have l2 : (mvF P.size f).calls.length = f.calls.length := List.length_map _
    unfold GotF at k2
    rw [l1, l2] at k1 k2
    exact ⟨va, vc, na, nc, ca, cc, k1, k2, k3⟩)
  obtain ⟨sx, hsx⟩ : ∃ y, P ++ s = y := ⟨_, rfl⟩
  rw [hsx] at HR s1
  have HJ := Lib.hid (And.intro hj hj4)
  have HPP := Lib.hid hP
  have HBD := Lib.hid hBD
  have HAT := Lib.hid hAT
  have HZ := Lib.hid (And.intro zP h0)
  clear hO hl hs hb0 hsx hsz hsp hj hj4 hP hBD hAT zP h0
  go_enter Tryz.func5, Tryz.ntmps5
  go_upto_region 4 with (first
    | (go_at_call 10; (with_reducible refine (HQ.out _ HB0.out).mono ?_); rintro e w1 ⟨vb, vbc, nb, nbc, cb, cbc, rfl, hG, hb⟩; have hn := one_new w1 (.cells #[.slice vb rs.length vbc, .slice nb f.nodes.length nbc, .slice cb f.calls.length cbc] 35); have HG1 := Lib.hid (hG.below hn); have HF1 := Lib.hid (Bl.new w1 35 #[.slice vb rs.length vbc, .slice nb f.nodes.length nbc, .slice cb f.calls.length cbc]); have HB1 := Lib.hid ((HB0.out.trans (hb.mono HB0.out.size)).trans (hn.mono (Nat.le_trans HB0.out.size hb.size))); clear hG hb hn)
    | (go_at_call 8; (with_reducible refine (HAW.out _ HB1.out).mono ?_); rintro e w2 ⟨rfl, hb⟩; have HG2 := Lib.hid (HG1.out.below hb); have HF2 := Lib.hid (HF1.out.below hb); have HB2 := Lib.hid (HB1.out.trans (hb.mono HB1.out.size)); clear hb))
  obtain ⟨F1, hF1⟩ : ∃ F1, w1.heap.size = F1 := ⟨_, rfl⟩
  rw [hF1] at HF2
  rw [hF1]
  clear hF1 HF1 HG1 HB1
  have hb4 : Below w2.heap.size w2 (w2.alloc (.cells #[.string ⟨#[]⟩, .string ⟨#[32]⟩, .string ⟨#[10, 9]⟩, .string ⟨#[35, 32, 99, 10]⟩] 9)) := one_new w2 _
  obtain ⟨W4, hW4⟩ : ∃ W4, w2.alloc (.cells #[.string ⟨#[]⟩, .string ⟨#[32]⟩, .string ⟨#[10, 9]⟩, .string ⟨#[35, 32, 99, 10]⟩] 9) = W4 := ⟨_, rfl⟩
  have HW4 := Lib.hid hW4
  rw [hW4] at hb4
  have HG4 := Lib.hid (HG2.out.below hb4)
  have HF4 := Lib.hid (HF2.out.below hb4)
  have HB4 := Lib.hid (HB2.out.trans (hb4.mono HB2.out.size))
  clear hb4 hW4 HG2 HF2 HB2
  go_cut [8] (fun v wx => v = .string P ∧ wx = W4)
  case first =>
    obtain ⟨hj, hj4⟩ := HJ.out
    have hP := HPP.out
    clear HR HQ HAW s1
    rcases (by omega : j = 0 ∨ j = 1 ∨ j = 2 ∨ j = 3) with rfl | rfl | rfl | rfl
    · have m0 : (x : Int) % 4 = 0 := by omega
      clear hj hj4 HJ
      go_wp2
      go_meet
      exact ⟨by rw [← HPP.out]; rfl, HW4.out⟩
    · have m0 : (x : Int) % 4 = 1 := by omega
      clear hj hj4 HJ
      go_wp2
      go_meet
      exact ⟨by rw [← HPP.out]; rfl, HW4.out⟩
    · have m0 : (x : Int) % 4 = 2 := by omega
      clear hj hj4 HJ
      go_wp2
      go_meet
      exact ⟨by rw [← HPP.out]; rfl, HW4.out⟩
    · have m0 : (x : Int) % 4 = 3 := by omega
      clear hj hj4 HJ
      go_wp2
      go_meet
      exact ⟨by rw [← HPP.out]; rfl, HW4.out⟩
  case rest =>
  obtain ⟨rfl, hw4⟩ := hcut
  obtain rfl := hw4.symm
  clear HW4 hw4
  go_upto_region 8 with (go_at_call 9; (with_reducible refine (HR.out _ HB4.out).mono ?_); rintro e w3 ⟨va, vc, na, nc, ca, cc, rfl, hG, hb⟩; have hn := one_new w3 (.cells #[.slice va rs.length vc, .slice na f.nodes.length nc, .slice ca f.calls.length cc] 27); have hbn := hb.trans (hn.mono hb.size); have HH5 := Lib.hid (hG.below hn); have HG5 := Lib.hid (HG4.out.below hbn); have HF5 := Lib.hid (HF4.out.below hbn); have HP5 := Lib.hid (Bl.new w3 27 #[.slice va rs.length vc, .slice na f.nodes.length nc, .slice ca f.calls.length cc]); have HB5 := Lib.hid (HB4.out.trans (hbn.mono HB4.out.size)); clear hG hb hn hbn)
  obtain ⟨W5, hW5⟩ : ∃ W5, w3.alloc (.cells #[.slice va rs.length vc, .slice na f.nodes.length nc, .slice ca f.calls.length cc] 27) = W5 := ⟨_, rfl⟩
  obtain ⟨F2, hF2⟩ : ∃ F2, w3.heap.size = F2 := ⟨_, rfl⟩
  rw [hW5] at HH5 HG5 HF5 HP5 HB5
  rw [hF2] at HP5
  rw [hW5, hF2]
  clear hW5 hF2 HG4 HF4 HB4 HR HAW HQ
  have f0 := HP5.out.cell (o := 0) (u := .slice va rs.length vc) rfl
  have f1 := HP5.out.cell (o := 1) (u := .slice na f.nodes.length nc) rfl
  have f2 := HP5.out.cell (o := 2) (u := .slice ca f.calls.length cc) rfl
  have fl := HP5.out.lt
  have HBK := Lib.hid (show Calls Tryz.prog 12 #[.agg #[.slice va rs.length vc, .slice na f.nodes.length nc, .slice ca f.calls.length cc]] W5 (fun e w' => ∃ vk vkc ck ckc, e = .returned (.agg #[.slice vk rs.length vkc, .slice na f.nodes.length nc, .slice ck f.calls.length ckc]) ∧ w'.ownsRow W5.heap.size 45 3 (.slice vk rs.length vkc) rs.length (defsC (rs.map (mvD P.size))) ∧ w'.ownsRow W5.heap.size 47 2 (.slice ck f.calls.length ckc) f.calls.length (namesC (f.calls.map (mvC P.size))) ∧ Below W5.heap.size W5 w') from (back8_any _ _ _ (rs.map (mvD P.size)) (mvF P.size f) W5 HH5.out (by rw [List.length_map]; exact HBD.out.1) (by show (f.calls.map _).length ≤ _; rw [List.length_map]; exact HBD.out.2)).mono fun e w' k => by
    obtain ⟨vk, vkc, ck, ckc, k1, k2, k3, k4⟩ := back_own k
    have l1 : (rs.map (mvD P.size)).length = rs.length := List.length_map _
    have l2 : (mvF P.size f).calls.length = f.calls.length := List.length_map _
    rw [l1] at k1 k2
    rw [l2] at k1 k3
    exact ⟨vk, vkc, ck, ckc, k1, k2, k3, k4⟩)
  go_upto_region 9 with (go_at_call 12; (with_reducible refine HBK.out.mono ?_); rintro e w6 ⟨vk, vkc, ck, ckc, rfl, hD, hN, hb⟩)
  have HS0 : Hid (Sp W5 w6.heap.size #[.slice vk rs.length vkc, .slice na f.nodes.length nc, .slice ck f.calls.length ckc] (.slice vk rs.length vkc) (.slice ck f.calls.length ckc) rs.length f.calls.length (defsC (bkL (mvD P.size) 0 rs)) (namesC (f.calls.map (mvC P.size))) (w6.alloc (.cells #[.slice vk rs.length vkc, .slice na f.nodes.length nc, .slice ck f.calls.length ckc] 35))) := Lib.hid ⟨ownsRow_grown hD (one_new w6 _), ownsRow_grown hN (one_new w6 _), Bl.new w6 35 _, hb.trans ((one_new w6 _).mono hb.size)⟩
  obtain ⟨W6, hW6⟩ : ∃ W6, w6.alloc (.cells #[.slice vk rs.length vkc, .slice na f.nodes.length nc, .slice ck f.calls.length ckc] 35) = W6 := ⟨_, rfl⟩
  obtain ⟨F3, hF3⟩ : ∃ F3, w6.heap.size = F3 := ⟨_, rfl⟩
  have HF13 : Hid (F1 < F3) := Lib.hid (by have h1 := HF5.out.lt; have h2 := hb.size; omega)
  rw [hW6, hF3] at HS0
  rw [hW6, hF3]
  clear hW6 hF3 hD hN hb f0 f1 f2 fl HBK
  go_wp2
  go_loopw [12] (fun c wr => ∃ k : Nat, k ≤ rs.length ∧ c = .int .i64 k ∧ Sp W5 F3 #[.slice vk rs.length vkc, .slice na f.nodes.length nc, .slice ck f.calls.length ckc] (.slice vk rs.length vkc) (.slice ck f.calls.length ckc) rs.length f.calls.length (defsC (bkL (mvD P.size) k rs)) (namesC (f.calls.map (mvC P.size))) wr) (fun c _ => rs.length - (intOf c).toNat)
  case atStart => exact ⟨0, Nat.zero_le _, rfl, HS0.out⟩
  case round =>
    obtain ⟨k, hk, rfl, hS⟩ := hrel
    clear HS0
    have o0 := hS.2.2.1.cell (o := 0) (u := .slice vk rs.length vkc) rfl
    have o2 := hS.2.2.1.cell (o := 2) (u := .slice ck f.calls.length ckc) rfl
    have ol := hS.2.2.1.lt
    have HS := Lib.hid hS
    by_cases hlt : k < rs.length
    · obtain ⟨y, hy⟩ : ∃ y, rs[k]? = some y := ⟨_, List.getElem?_eq_getElem hlt⟩
      obtain ⟨g, rfl, hgb, hgl, hgc, hgf, -⟩ := own_open8 hS.1 (by omega)
      have c1 : wr.cell? ⟨g, k * 3 + 1, none⟩ = some (.int .i64 ((y.2.1 + P.size : Nat) : Int)) := hgc _ _ (by
        have e := flat_at defC 3 (fun _ => rfl) (bkL (mvD P.size) k rs) k (mvD P.size y) 1 (bk_at hy) (by omega)
        exact e)
      have x1 := hgf (k * 3 + 1)
      have hat := HAT.out.1 y (List.mem_of_getElem? hy)
      have hz := HZ.out
      have v1 : IntKind.i64.wrap (((y.2.1 + P.size : Nat) : Int) - (P.size : Int)) = (y.2.1 : Int) := by
        rw [show ((y.2.1 + P.size : Nat) : Int) - (P.size : Int) = (y.2.1 : Int) by omega]
        exact IntWalk.i64_in _ (by omega)
      have k1 : (k : Int) < (rs.length : Int) := by omega
      have hbd := HBD.out.1
      have HY := Lib.hid hy
      obtain ⟨at1, ha1⟩ : ∃ z, ((y.2.1 + P.size : Nat) : Int) = z := ⟨_, rfl⟩
      obtain ⟨at0, ha0⟩ : ∃ z, (y.2.1 : Int) = z := ⟨_, rfl⟩
      rw [ha1] at c1
      rw [ha1, ha0] at v1
      have HA0 := Lib.hid ha0
      clear hS hgc hgf hy hat hz ha1 ha0 hgb
      go_wp2
      go_region_with fail
      all_goals
        go_wp2
        have hS2 := HS.out.defs (by omega) (k * 3 + 1) (.int .i64 at0)
        rw [show (defsC (bkL (mvD P.size) k rs)).set (k * 3 + 1) (.int .i64 at0) = defsC (bkL (mvD P.size) (k + 1) rs) from by rw [← HA0.out]; exact bk_set (F := defC) (n := 3) (j := 1) (fun _ => rfl) (by omega) HY.out _ rfl] at hS2
        have HS2 := Lib.hid hS2
        clear hS2
        go_roundw
        case rel => first | exact ⟨k + 1, hlt, by go_num, HS2.out.drew⟩ | exact ⟨k + 1, hlt, by go_num, HS2.out⟩
        case measure => simp [intOf]; omega
    · obtain rfl : k = rs.length := by omega
      have k1 : ¬ (rs.length : Int) < (rs.length : Int) := by omega
      have HS1 : Hid (Sp W5 F3 #[.slice vk rs.length vkc, .slice na f.nodes.length nc, .slice ck f.calls.length ckc] (.slice vk rs.length vkc) (.slice ck f.calls.length ckc) rs.length f.calls.length (defsC rs) (namesC (bkL (mvC P.size) 0 f.calls)) wr) := Lib.hid (by have h := HS.out; rw [bk_all] at h; exact h)
      clear hS HS hlt hk
      go_wp2
      clear o0 o2 ol k1
      obtain ⟨w9, hw9⟩ : ∃ w9, w9 = wr := ⟨_, rfl⟩
      rw [← hw9] at HS1 ⊢
      clear hw9
      go_loopw [13] (fun c wq => ∃ k : Nat, k ≤ f.calls.length ∧ c = .int .i64 k ∧ Sp W5 F3 #[.slice vk rs.length vkc, .slice na f.nodes.length nc, .slice ck f.calls.length ckc] (.slice vk rs.length vkc) (.slice ck f.calls.length ckc) rs.length f.calls.length (defsC rs) (namesC (bkL (mvC P.size) k f.calls)) wq) (fun c _ => f.calls.length - (intOf c).toNat)
      case atStart => exact ⟨0, Nat.zero_le _, rfl, HS1.out⟩
      case round =>
        obtain ⟨k, hk, rfl, hS⟩ := hrel
        clear HS1
        have o0 := hS.2.2.1.cell (o := 0) (u := .slice vk rs.length vkc) rfl
        have o1 := hS.2.2.1.cell (o := 1) (u := .slice na f.nodes.length nc) rfl
        have o2 := hS.2.2.1.cell (o := 2) (u := .slice ck f.calls.length ckc) rfl
        have ol := hS.2.2.1.lt
        have HS := Lib.hid hS
        by_cases hlt : k < f.calls.length
        · obtain ⟨y, hy⟩ : ∃ y, f.calls[k]? = some y := ⟨_, List.getElem?_eq_getElem hlt⟩
          obtain ⟨g, rfl, hgb, hgl, hgc, hgf, -⟩ := own_open8 hS.2.1 (by omega)
          have c1 : wr.cell? ⟨g, k * 2 + 1, none⟩ = some (.int .i64 ((y.2 + P.size : Nat) : Int)) := hgc _ _ (by
            have e := flat_at nameC 2 (fun _ => rfl) (bkL (mvC P.size) k f.calls) k (mvC P.size y) 1 (bk_at hy) (by omega)
            exact e)
          have x1 := hgf (k * 2 + 1)
          have hat := HAT.out.2 y (List.mem_of_getElem? hy)
          have hz := HZ.out
          have v1 : IntKind.i64.wrap (((y.2 + P.size : Nat) : Int) - (P.size : Int)) = (y.2 : Int) := by
            rw [show ((y.2 + P.size : Nat) : Int) - (P.size : Int) = (y.2 : Int) by omega]
            exact IntWalk.i64_in _ (by omega)
          have k1 : (k : Int) < (f.calls.length : Int) := by omega
          have hbd := HBD.out.2
          have HY := Lib.hid hy
          obtain ⟨at1, ha1⟩ : ∃ z, ((y.2 + P.size : Nat) : Int) = z := ⟨_, rfl⟩
          obtain ⟨at0, ha0⟩ : ∃ z, (y.2 : Int) = z := ⟨_, rfl⟩
          rw [ha1] at c1
          rw [ha1, ha0] at v1
          have HA0 := Lib.hid ha0
          clear hS hgc hgf hy hat hz ha1 ha0 hgb
          go_wp2
          go_region_with fail
          all_goals
            go_wp2
            have hS2 := HS.out.names (by omega) (k * 2 + 1) (.int .i64 at0)
            rw [show (namesC (bkL (mvC P.size) k f.calls)).set (k * 2 + 1) (.int .i64 at0) = namesC (bkL (mvC P.size) (k + 1) f.calls) from by rw [← HA0.out]; exact bk_set (F := nameC) (n := 2) (j := 1) (fun _ => rfl) (by omega) HY.out _ rfl] at hS2
            have HS2 := Lib.hid hS2
            clear hS2
            go_roundw
            case rel => first | exact ⟨k + 1, hlt, by go_num, HS2.out.drew⟩ | exact ⟨k + 1, hlt, by go_num, HS2.out⟩
            case measure => simp [intOf]; omega
        · obtain rfl : k = f.calls.length := by omega
          have k1 : ¬ (f.calls.length : Int) < (f.calls.length : Int) := by omega
          obtain ⟨s1, s2, s3, s4⟩ := HS.out
          rw [bk_all] at s2
          have HWANT := Lib.hid (HG5.out.below s4)
          have HGOT : Hid (FileIn wr (.slice vk rs.length vkc) (.slice na f.nodes.length nc) (.slice ck f.calls.length ckc) rs f) := Lib.hid ⟨HG5.out.1, CellsAt.of_own s1, HH5.out.2.2.1.kept s4 (Nat.le_refl _), CellsAt.of_own s2⟩
          have hf := HF5.out.below s4
          have p0 := hf.cell (o := 0) (u := .slice vb rs.length vbc) rfl
          have p1 := hf.cell (o := 1) (u := .slice nb f.nodes.length nbc) rfl
          have p2 := hf.cell (o := 2) (u := .slice cb f.calls.length cbc) rfl
          have pl := hf.lt
          have HB9 := Lib.hid (HB5.out.trans (s4.mono HB5.out.size))
          clear hS HS hlt hk s1 s2 s3 s4 hf
          go_wp2_with (go_at_call 11; (refine (qsame_true _ _ _ _ _ _ _ _ _ HGOT.out HWANT.out).mono ?_); rintro e w8 ⟨rfl, hb⟩; have HB10 := Lib.hid (HB9.out.trans (hb.mono HB9.out.size)); clear hb)
          go_ret
          exact ⟨rfl, HB10.out⟩
set_option maxHeartbeats 8000000 in
theorem law8_spaces (s : ByteArray) (x : Nat) (w : World) (hx : x ≤ 255) (hs : s.size ≤ 1050000) (hl : LexLaid w) : Calls Tryz.prog 5 #[.string s, .int .u8 (x : Int)] w fun e w' => e = .returned (.bool true) ∧ Below w.heap.size w w' := by
  cases hO : rfileL (bts s) with
  | bad a dp => exact spaces_bad s x w hs hl a dp hO
  | ok rs f =>
    by_cases h0 : s.size ≤ 1000
    · exact spaces_main8 s x w hx hs hl rs f hO h0
    · exact spaces_long s x w hs hl rs f hO h0
end
end Go.Proofs.YtmjnbapkpcfgcaaGreatDoor
