/- The walk of the law GramCopies. -/
import Derived.Test.YtbhejkjgebhpoaaGramAwake
import Derived.Test.YtbhejkjgebhpoaaGramRSame
import Derived.Test.YtbhejkjgebhpoaaGramRCopy
namespace Go.Proofs.Ytbhejkjgebhpoaa
open Go.RowKit
/-- The kinds of all cells stay; slices stay as they are. -/
def Kin (w w' : World) : Prop := (∀ a x, w.cell? a = some (.int .i64 x) → ∃ y, w'.cell? a = some (.int .i64 y)) ∧ (∀ a s, w.cell? a = some (.string s) → ∃ y, w'.cell? a = some (.string y)) ∧
  (∀ a p n c, w.cell? a = some (.slice p n c) → w'.cell? a = some (.slice p n c)) ∧ ∀ a, w.frozen? a = false → w'.frozen? a = false
theorem Kin.refl (w : World) : Kin w w := ⟨fun _ x h => ⟨x, h⟩, fun _ s h => ⟨s, h⟩, fun _ _ _ _ h => h, fun _ h => h⟩
theorem Kin.int {w W : World} (h : Kin w W) {p : Addr} {x : Int} (hp : W.cell? p = some (.int .i64 x)) (y : Int) : Kin w (W.setCell p (.int .i64 y)) := by
  obtain ⟨h1, h2, h3, h4⟩ := h
  refine ⟨fun a z ha => ?_, fun a z ha => ?_, fun a q n c ha => ?_, fun a ha => by simpa using h4 a ha⟩
  · by_cases e : a = p
    · subst e; exact ⟨y, World.cell?_setCell_same' _ _ _ (by rw [hp]; rfl)⟩
    · obtain ⟨u, hu⟩ := h1 a z ha
      exact ⟨u, by rw [World.cell?_setCell_other (h := fun h => e h.symm)]; exact hu⟩
  · obtain ⟨u, hu⟩ := h2 a z ha
    by_cases e : a = p
    · subst e; rw [hp] at hu; cases hu
    · exact ⟨u, by rw [World.cell?_setCell_other (h := fun h => e h.symm)]; exact hu⟩
  · have hu := h3 a q n c ha
    by_cases e : a = p
    · subst e; rw [hp] at hu; cases hu
    · rw [World.cell?_setCell_other (h := fun h => e h.symm)]; exact hu
theorem Kin.str {w W : World} (h : Kin w W) {p : Addr} {x : ByteArray} (hp : W.cell? p = some (.string x)) (y : ByteArray) : Kin w (W.setCell p (.string y)) := by
  obtain ⟨h1, h2, h3, h4⟩ := h
  refine ⟨fun a z ha => ?_, fun a z ha => ?_, fun a q n c ha => ?_, fun a ha => by simpa using h4 a ha⟩
  · obtain ⟨u, hu⟩ := h1 a z ha
    by_cases e : a = p
    · subst e; rw [hp] at hu; cases hu
    · exact ⟨u, by rw [World.cell?_setCell_other (h := fun h => e h.symm)]; exact hu⟩
  · by_cases e : a = p
    · subst e; exact ⟨y, World.cell?_setCell_same' _ _ _ (by rw [hp]; rfl)⟩
    · obtain ⟨u, hu⟩ := h2 a z ha
      exact ⟨u, by rw [World.cell?_setCell_other (h := fun h => e h.symm)]; exact hu⟩
  · have hu := h3 a q n c ha
    by_cases e : a = p
    · subst e; rw [hp] at hu; cases hu
    · rw [World.cell?_setCell_other (h := fun h => e h.symm)]; exact hu
theorem own_open {W : World} {base : Nat} {e : TypeId} {size n c : Nat} {a : Option Addr} {xs : List Value} (h : W.ownsRow base e size (.slice a n c) n xs) (hn : 0 < n) : ∃ g, a = some ⟨g, 0, none⟩ ∧ base ≤ g ∧ (∀ j u, xs[j]? = some u → W.cell? ⟨g, j, none⟩ = some u) ∧ ∀ o, W.frozen? ⟨g, o, none⟩ = false := by
  have h' := h
  rcases h.2 with ⟨-, e0⟩ | ⟨g, cap, cur, e, hb, -⟩
  · omega
  · injection e with e1 e2 e3
    subst e1 e3
    exact ⟨g, rfl, hb, fun j u hu => by have := h'.cells rfl j u hu; rw [Addr.add_lit, Nat.zero_add] at this; exact this, fun o => h'.frozenAt o⟩
theorem kept_at {w W : World} {b o : Nat} {v : Value} (h : w.cell? ⟨b, o, none⟩ = some v) (hb : Below w.heap.size w W) : W.cell? ⟨b, o, none⟩ = some v := by
  rw [(bcell hb).1 b o (lt_of_cell h)]; exact h
/-- The two arguments in their blocks. -/
def Boxes (A : Nat) (x0 x1 y0 y1 : Value) (W : World) : Prop := W.cell? ⟨A, 0, none⟩ = some x0 ∧ W.cell? ⟨A, 1, none⟩ = some x1 ∧ W.cell? ⟨A + 1, 0, none⟩ = some y0 ∧ W.cell? ⟨A + 1, 1, none⟩ = some y1
theorem Boxes.kept {A : Nat} {x0 x1 y0 y1 : Value} {W W' : World} (h : Boxes A x0 x1 y0 y1 W) (hb : Below W.heap.size W W') : Boxes A x0 x1 y0 y1 W' := ⟨kept_at h.1 hb, kept_at h.2.1 hb, kept_at h.2.2.1 hb, kept_at h.2.2.2 hb⟩
def Thn (f : Nat) (g : Array Value) (w : World) (P : World → Ending → World → Prop) : Prop := ∀ W, Below w.heap.size w W → Calls Try.prog f g W (P W)
set_option maxHeartbeats 8000000 in
set_option maxRecDepth 100000 in
theorem copies_few1 (hA : GramAwake) (ra na rb nb : Option Addr) (n1 c1 n2 c2 n3 c3 n4 c4 : Nat) (w : World) (hF : Thn 14 #[.agg #[.slice ra n1 c1, .slice na n2 c2]] w (fun W e w' => e = .returned (.bool false) ∧ Below W.heap.size W w')) :
    Calls Try.prog 4 #[.agg #[.slice ra n1 c1, .slice na n2 c2], .agg #[.slice rb n3 c3, .slice nb n4 c4]] w fun e w' => e = .returned (.bool true) ∧ Below w.heap.size w w' := by
  unfold GramAwake at hA
  unfold Thn at hF
  have HA := Lib.hid hA
  have HF := Lib.hid hF
  clear hA hF
  go_enter Try.func4, Try.ntmps4
  go_upto_region 2 with (first
    | (go_at_call 6; (with_reducible refine (HA.out _).mono ?_); rintro e w2 ⟨rfl, hb⟩; have HW := Lib.hid ((two_new w _ _).trans (hb.mono (two_new w _ _).size)); have b0 := (bcell hb).1 w.heap.size 0 (by simp; omega); have b1 := (bcell hb).1 w.heap.size 1 (by simp; omega); simp at b0 b1; clear hb)
    | (go_at_call 14; (with_reducible refine (HF.out _ HW.out).mono ?_); rintro e w3 ⟨rfl, hb⟩; replace HW := Lib.hid (HW.out.trans (hb.mono HW.out.size)); clear hb))
  go_wp2_with (go_at_call 6; (with_reducible refine (HA.out _).mono ?_); rintro e w4 ⟨rfl, hb⟩; replace HW := Lib.hid (HW.out.trans (hb.mono HW.out.size)); clear hb)
  go_ret
  exact ⟨rfl, HW.out⟩
set_option maxHeartbeats 8000000 in
set_option maxRecDepth 100000 in
theorem copies_few2 (hA : GramAwake) (ra na rb nb : Option Addr) (n1 c1 n2 c2 n3 c3 n4 c4 : Nat) (w : World) (hF : Thn 14 #[.agg #[.slice ra n1 c1, .slice na n2 c2]] w (fun W e w' => e = .returned (.bool true) ∧ Below W.heap.size W w')) (hF2 : Thn 14 #[.agg #[.slice rb n3 c3, .slice nb n4 c4]] w (fun W e w' => e = .returned (.bool false) ∧ Below W.heap.size W w')) :
    Calls Try.prog 4 #[.agg #[.slice ra n1 c1, .slice na n2 c2], .agg #[.slice rb n3 c3, .slice nb n4 c4]] w fun e w' => e = .returned (.bool true) ∧ Below w.heap.size w w' := by
  unfold GramAwake at hA
  unfold Thn at hF hF2
  have HA := Lib.hid hA
  have HF := Lib.hid hF
  have HF2 := Lib.hid hF2
  clear hA hF hF2
  go_enter Try.func4, Try.ntmps4
  go_upto_region 2 with (first
    | (go_at_call 6; (with_reducible refine (HA.out _).mono ?_); rintro e w2 ⟨rfl, hb⟩; have HW := Lib.hid ((two_new w _ _).trans (hb.mono (two_new w _ _).size)); have b0 := (bcell hb).1 w.heap.size 0 (by simp; omega); have b1 := (bcell hb).1 w.heap.size 1 (by simp; omega); have b2 := (bcell hb).1 (w.heap.size + 1) 0 (by simp); have b3 := (bcell hb).1 (w.heap.size + 1) 1 (by simp); simp at b0 b1 b2 b3; clear hb)
    | (go_at_call 14; (with_reducible refine (HF.out _ HW.out).mono ?_); rintro e w3 ⟨rfl, hb⟩; replace HW := Lib.hid (HW.out.trans (hb.mono HW.out.size)); replace b2 := kept_at b2 hb; replace b3 := kept_at b3 hb; clear hb b0 b1)
    | (go_at_call 14; (with_reducible refine (HF2.out _ HW.out).mono ?_); rintro e w4 ⟨rfl, hb⟩; replace HW := Lib.hid (HW.out.trans (hb.mono HW.out.size)); clear hb))
  go_wp2_with (go_at_call 6; (with_reducible refine (HA.out _).mono ?_); rintro e w5 ⟨rfl, hb⟩; replace HW := Lib.hid (HW.out.trans (hb.mono HW.out.size)); clear hb)
  go_ret
  exact ⟨rfl, HW.out⟩
/-- What stays through the region of the comparisons. -/
theorem copK {A C : Nat} {x0 x1 y0 y1 z0 z1 : Value} {n : Nat} {w W W' : World} (hn : n ≤ w.heap.size) (hb : Below W.heap.size W W')
    (h : W.cell? ⟨A, 0, none⟩ = some x0 ∧ W.cell? ⟨A, 1, none⟩ = some x1 ∧ W.cell? ⟨A + 1, 0, none⟩ = some y0 ∧ W.cell? ⟨A + 1, 1, none⟩ = some y1 ∧ W.cell? ⟨C, 0, none⟩ = some z0 ∧ W.cell? ⟨C, 1, none⟩ = some z1 ∧ Below n w W) :
    W'.cell? ⟨A, 0, none⟩ = some x0 ∧ W'.cell? ⟨A, 1, none⟩ = some x1 ∧ W'.cell? ⟨A + 1, 0, none⟩ = some y0 ∧ W'.cell? ⟨A + 1, 1, none⟩ = some y1 ∧ W'.cell? ⟨C, 0, none⟩ = some z0 ∧ W'.cell? ⟨C, 1, none⟩ = some z1 ∧ Below n w W' :=
  ⟨kept_at h.1 hb, kept_at h.2.1 hb, kept_at h.2.2.1 hb, kept_at h.2.2.2.1 hb, kept_at h.2.2.2.2.1 hb, kept_at h.2.2.2.2.2.1 hb, h.2.2.2.2.2.2.trans (hb.mono (Nat.le_trans hn h.2.2.2.2.2.2.size))⟩
theorem opn_any {rs : List PR} {ns : List PN} (hrl : rs.length ≤ 30) (hnl : ns.length ≤ 300) (hkl : ∀ n, n ∈ ns → n.kids.length ≤ 60) {base : Nat} {W : World} {rv nv : Value} {qs : List Value} (hq : qs.length = ns.length) (h1 : W.ownsRow base 40 2 rv rs.length (rulesC rs)) (h2 : W.ownsRow base 38 7 nv ns.length (nodesC (ns.zip qs))) (h3 : ∀ (j : Nat) (n : PN) (q : Value), ns[j]? = some n → qs[j]? = some q → W.ownsRow base 3 1 q n.kids.length (intsV n.kids)) : RulesIn W rv rs ∧ NodesAt W nv ns :=
  ⟨RulesIn.of_own h1 (by unfold maxLen; omega), NodesAt.of_own h2 hq (by unfold maxLen; omega) (fun i n q a1 a2 => ⟨IntsAt.of_own (h3 i n q a1 a2), by have := hkl n (List.mem_of_getElem? a1); unfold maxLen; omega⟩)⟩
set_option maxHeartbeats 8000000 in
set_option maxRecDepth 100000 in
theorem copies_good (hA : GramAwake) (ra na rb nb : Option Addr) (c1 c2 c3 c4 : Nat) (rs ts : List PR) (ns ms : List PN) (w : World) (hF : Thn 14 #[.agg #[.slice ra rs.length c1, .slice na ns.length c2]] w (fun W e w' => e = .returned (.bool true) ∧ Below W.heap.size W w')) (hF2 : Thn 14 #[.agg #[.slice rb ts.length c3, .slice nb ms.length c4]] w (fun W e w' => e = .returned (.bool true) ∧ Below W.heap.size W w'))
    (hR : RulesIn w (.slice ra rs.length c1) rs) (hN : NodesAt w (.slice na ns.length c2) ns) (hR2 : RulesIn w (.slice rb ts.length c3) ts) (hN2 : NodesAt w (.slice nb ms.length c4) ms)
    (hnm : ∀ r, r ∈ rs → r.name.size ≤ 100) (hkl : ∀ n, n ∈ ns → n.kids.length ≤ 60) (hrl : rs.length ≤ 30) (hnl : ns.length ≤ 300) :
    Calls Try.prog 4 #[.agg #[.slice ra rs.length c1, .slice na ns.length c2], .agg #[.slice rb ts.length c3, .slice nb ms.length c4]] w fun e w' => e = .returned (.bool true) ∧ Below w.heap.size w w' := by
  have hRC : Thn 15 #[.agg #[.slice ra rs.length c1, .slice na ns.length c2]] w (fun W e w' => ∃ oa oc pa pc, e = .returned (.agg #[.slice oa rs.length oc, .slice pa ns.length pc]) ∧ (RulesIn w' (.slice oa rs.length oc) rs ∧ NodesAt w' (.slice pa ns.length pc) ns) ∧ Below W.heap.size W w') := fun W hb =>
    (rcopy_any _ _ rs ns W (hR.kept hb (Nat.le_refl _)) (hN.kept hb (Nat.le_refl _)) (by omega) (by omega) (fun n h => by have := hkl n h; omega)).mono fun e w' hh => by
      obtain ⟨rv, nv, qs, he, hq, h1, h2, h3, hb⟩ := hh
      obtain ⟨oa, oc, rfl⟩ := own_slice' h1
      obtain ⟨pa, pc, rfl⟩ := own_slice' h2
      exact ⟨oa, oc, pa, pc, he, opn_any hrl hnl hkl hq h1 h2 h3, hb⟩
  unfold GramAwake at hA
  unfold Thn at hF hF2 hRC
  have HA := Lib.hid hA
  have HF := Lib.hid hF
  have HF2 := Lib.hid hF2
  have HRC := Lib.hid hRC
  have HRB := Lib.hid hR
  have HNB := Lib.hid hN
  have HRB2 := Lib.hid hR2
  have HNB2 := Lib.hid hN2
  clear hA hF hF2 hRC hR hN hR2 hN2
  go_enter Try.func4, Try.ntmps4
  go_upto_region 4 with (first
    | (go_at_call 6; (with_reducible refine (HA.out _).mono ?_); rintro e w2 ⟨rfl, hb⟩; have HW := Lib.hid ((two_new w _ _).trans (hb.mono (two_new w _ _).size)); have b0 := (bcell hb).1 w.heap.size 0 (by simp; omega); have b1 := (bcell hb).1 w.heap.size 1 (by simp; omega); have b2 := (bcell hb).1 (w.heap.size + 1) 0 (by simp); have b3 := (bcell hb).1 (w.heap.size + 1) 1 (by simp); simp at b0 b1 b2 b3; clear hb)
    | (go_at_call 14; (with_reducible refine (HF.out _ HW.out).mono ?_); rintro e w3 ⟨rfl, hb⟩; replace HW := Lib.hid (HW.out.trans (hb.mono HW.out.size)); replace b0 := kept_at b0 hb; replace b1 := kept_at b1 hb; replace b2 := kept_at b2 hb; replace b3 := kept_at b3 hb; clear hb)
    | (go_at_call 14; (with_reducible refine (HF2.out _ HW.out).mono ?_); rintro e w4 ⟨rfl, hb⟩; replace HW := Lib.hid (HW.out.trans (hb.mono HW.out.size)); replace b0 := kept_at b0 hb; replace b1 := kept_at b1 hb; replace b2 := kept_at b2 hb; replace b3 := kept_at b3 hb; clear hb)
    | (go_at_call 15; (with_reducible refine (HRC.out _ HW.out).mono ?_); rintro e w5 ⟨oa, oc, pa, pc, rfl, ⟨ho1, ho2⟩, hb⟩; replace HW := Lib.hid (HW.out.trans (hb.mono HW.out.size)); replace b0 := kept_at b0 hb; replace b1 := kept_at b1 hb; replace b2 := kept_at b2 hb; replace b3 := kept_at b3 hb; have HO1 := Lib.hid ho1; have HO2 := Lib.hid ho2; clear hb ho1 ho2))
  obtain ⟨W6, hW6⟩ : ∃ W6, w5.alloc (.cells #[.slice oa rs.length oc, .slice pa ns.length pc] 25) = W6 := ⟨_, rfl⟩
  obtain ⟨P, hP⟩ : ∃ P, w5.heap.size = P := ⟨_, rfl⟩
  have hb6 : Below w5.heap.size w5 W6 := by rw [← hW6]; exact one_new w5 _
  have p0 : W6.cell? ⟨P, 0, none⟩ = some (.slice oa rs.length oc) := by rw [← hW6, ← hP]; simp
  have p1 : W6.cell? ⟨P, 1, none⟩ = some (.slice pa ns.length pc) := by rw [← hW6, ← hP]; simp
  replace b0 := kept_at b0 hb6
  replace b1 := kept_at b1 hb6
  replace b2 := kept_at b2 hb6
  replace b3 := kept_at b3 hb6
  have ho1 := HO1.out.kept hb6 (Nat.le_refl _)
  have ho2 := HO2.out.kept hb6 (Nat.le_refl _)
  have HB6 := Lib.hid (HW.out.trans (hb6.mono HW.out.size))
  have HCL := Lib.hid (gclone_any _ _ rs ns W6 ho1 ho2 (by omega) (by omega) (fun r h => by have := hnm r h; omega) (fun n h => by have := hkl n h; omega))
  unfold CloneIs at HCL
  replace HO1 := Lib.hid ho1
  replace HO2 := Lib.hid ho2
  rw [hW6, hP]
  clear hW6 hP hb6 ho1 ho2 HRC HF HF2 HA HW
  go_upto_region 5 with (go_at_call 16; (with_reducible refine HCL.out.mono ?_); rintro e w7 ⟨rv, nv, qs, rfl, hq, h1, h2, h3, hb⟩; obtain ⟨ga, gc, rfl⟩ := own_slice' h1; obtain ⟨ka, kc, rfl⟩ := own_slice' h2; have H1 := Lib.hid h1; have H2 := Lib.hid h2; have H3 := Lib.hid h3; have HB7 := Lib.hid hb; clear h1 h2 h3 hb)
  obtain ⟨W8, hW8⟩ : ∃ W8, w7.alloc (.cells #[.slice ga rs.length gc, .slice ka ns.length kc] 25) = W8 := ⟨_, rfl⟩
  obtain ⟨C, hC⟩ : ∃ C, w7.heap.size = C := ⟨_, rfl⟩
  have hb8 : Below w7.heap.size w7 W8 := by rw [← hW8]; exact one_new w7 _
  have z0 : W8.cell? ⟨C, 0, none⟩ = some (.slice ga rs.length gc) := by rw [← hW8, ← hC]; simp
  have z1 : W8.cell? ⟨C, 1, none⟩ = some (.slice ka ns.length kc) := by rw [← hW8, ← hC]; simp
  have hb78 := HB7.out.trans (hb8.mono HB7.out.size)
  replace b0 := kept_at b0 hb78
  replace b1 := kept_at b1 hb78
  replace b2 := kept_at b2 hb78
  replace b3 := kept_at b3 hb78
  replace p0 := kept_at p0 hb78
  replace p1 := kept_at p1 hb78
  have hH1 := ownsRow_grown H1.out hb8
  have hH2 := ownsRow_grown H2.out hb8
  have hH3 := fun j n q a b => ownsRow_grown (H3.out j n q a b) hb8
  have hbw := HB6.out.trans (hb78.mono HB6.out.size)
  have hcc := opn_any hrl hnl hkl hq hH1 hH2 hH3
  obtain ⟨d, hd⟩ : ∃ d, decide (rs = ts ∧ ns = ms) = d := ⟨_, rfl⟩
  have hS1 : ∀ W, Below W8.heap.size W8 W → Calls Try.prog 17 #[.agg #[.slice ra rs.length c1, .slice na ns.length c2], .agg #[.slice rb ts.length c3, .slice nb ms.length c4]] W fun e w' => e = .returned (.bool d) ∧ Below W.heap.size W w' := fun W hW => by
    have hx := hbw.trans (hW.mono hbw.size)
    have := same_any _ _ _ _ rs ts ns ms W (HRB.out.kept hx (Nat.le_refl _)) (HNB.out.kept hx (Nat.le_refl _)) (HRB2.out.kept hx (Nat.le_refl _)) (HNB2.out.kept hx (Nat.le_refl _))
    rw [hd] at this; exact this
  have hS2 : ∀ W, Below W8.heap.size W8 W → Calls Try.prog 18 #[.agg #[.slice ra rs.length c1, .slice na ns.length c2], .agg #[.slice rb ts.length c3, .slice nb ms.length c4]] W fun e w' => e = .returned (.bool d) ∧ Below W.heap.size W w' := fun W hW => by
    have hx := hbw.trans (hW.mono hbw.size)
    have := rsame_any _ _ _ _ rs ts ns ms W (HRB.out.kept hx (Nat.le_refl _)) (HNB.out.kept hx (Nat.le_refl _)) (HRB2.out.kept hx (Nat.le_refl _)) (HNB2.out.kept hx (Nat.le_refl _))
    rw [hd] at this; exact this
  have hS3 : ∀ W, Below W8.heap.size W8 W → Calls Try.prog 18 #[.agg #[.slice ga rs.length gc, .slice ka ns.length kc], .agg #[.slice ra rs.length c1, .slice na ns.length c2]] W fun e w' => e = .returned (.bool true) ∧ Below W.heap.size W w' := fun W hW => by
    have hx := hbw.trans (hW.mono hbw.size)
    have := rsame_any _ _ _ _ rs rs ns ns W (hcc.1.kept hW (Nat.le_refl _)) (hcc.2.kept hW (Nat.le_refl _)) (HRB.out.kept hx (Nat.le_refl _)) (HNB.out.kept hx (Nat.le_refl _))
    rw [decide_eq_true ⟨rfl, rfl⟩] at this; exact this
  have hS4 : ∀ W, Below W8.heap.size W8 W → Calls Try.prog 17 #[.agg #[.slice ga rs.length gc, .slice ka ns.length kc], .agg #[.slice ra rs.length c1, .slice na ns.length c2]] W fun e w' => e = .returned (.bool true) ∧ Below W.heap.size W w' := fun W hW => by
    have hx := hbw.trans (hW.mono hbw.size)
    have := same_any _ _ _ _ rs rs ns ns W (hcc.1.kept hW (Nat.le_refl _)) (hcc.2.kept hW (Nat.le_refl _)) (HRB.out.kept hx (Nat.le_refl _)) (HNB.out.kept hx (Nat.le_refl _))
    rw [decide_eq_true ⟨rfl, rfl⟩] at this; exact this
  have HS1 := Lib.hid hS1
  have HS2 := Lib.hid hS2
  have HS3 := Lib.hid hS3
  have HS4 := Lib.hid hS4
  replace H1 := Lib.hid hH1
  replace H2 := Lib.hid hH2
  replace H3 := Lib.hid hH3
  have HBW := Lib.hid hbw
  have HB78 := Lib.hid hb78
  have HP0 := Lib.hid p0
  have HP1 := Lib.hid p1
  have HHS := Lib.hid hb78.size
  rw [hW8, hC]
  clear hS1 hS2 hS3 hS4 hH1 hH2 hH3 hcc hbw hb78 hb8 hd hW8 hC HCL HB7 p0 p1
  obtain ⟨n0, hn0⟩ : ∃ n0, W8.heap.size = n0 := ⟨_, rfl⟩
  have hnw : n0 ≤ W8.heap.size := Nat.le_of_eq hn0.symm
  have HN0 := Lib.hid hn0
  have hS : (fun W : World => W.cell? ⟨w.heap.size, 0, none⟩ = some (.slice ra rs.length c1) ∧ W.cell? ⟨w.heap.size, 1, none⟩ = some (.slice na ns.length c2) ∧ W.cell? ⟨w.heap.size + 1, 0, none⟩ = some (.slice rb ts.length c3) ∧ W.cell? ⟨w.heap.size + 1, 1, none⟩ = some (.slice nb ms.length c4) ∧ W.cell? ⟨C, 0, none⟩ = some (.slice ga rs.length gc) ∧ W.cell? ⟨C, 1, none⟩ = some (.slice ka ns.length kc) ∧ Below n0 W8 W) W8.drew := ⟨b0, b1, b2, b3, z0, z1, by rw [← hn0]; exact (Below.refl _ _).drew⟩
  clear hn0 b0 b1 b2 b3 z0 z1
  dsimp only at hS
  have qd : (d != d) = false := by simp
  go_region_held3 (fun W => W.cell? ⟨w.heap.size, 0, none⟩ = some (.slice ra rs.length c1) ∧ W.cell? ⟨w.heap.size, 1, none⟩ = some (.slice na ns.length c2) ∧ W.cell? ⟨w.heap.size + 1, 0, none⟩ = some (.slice rb ts.length c3) ∧ W.cell? ⟨w.heap.size + 1, 1, none⟩ = some (.slice nb ms.length c4) ∧ W.cell? ⟨C, 0, none⟩ = some (.slice ga rs.length gc) ∧ W.cell? ⟨C, 1, none⟩ = some (.slice ka ns.length kc) ∧ Below n0 W8 W) (first | exact hS)
    (first
      | (go_at_call 17; with_reducible refine (HS1.out _ (by rw [HN0.out]; exact hS.2.2.2.2.2.2)).mono ?_; rintro ev w9 ⟨rfl, hb⟩; replace hS := copK hnw hb hS; clear hb)
      | (go_at_call 18; with_reducible refine (HS2.out _ (by rw [HN0.out]; exact hS.2.2.2.2.2.2)).mono ?_; rintro ev w9 ⟨rfl, hb⟩; replace hS := copK hnw hb hS; clear hb)
      | (go_at_call 18; with_reducible refine (HS3.out _ (by rw [HN0.out]; exact hS.2.2.2.2.2.2)).mono ?_; rintro ev w9 ⟨rfl, hb⟩; replace hS := copK hnw hb hS; clear hb)
      | (go_at_call 17; with_reducible refine (HS4.out _ (by rw [HN0.out]; exact hS.2.2.2.2.2.2)).mono ?_; rintro ev w9 ⟨rfl, hb⟩; replace hS := copK hnw hb hS; clear hb))
  have hbn := hS.2.2.2.2.2.2
  rw [← HN0.out] at hbn
  have k0 := hS.1
  have k1 := hS.2.1
  have k4 := hS.2.2.2.2.1
  have k5 := hS.2.2.2.2.2.1
  have kp0 := kept_at HP0.out hbn
  have kp1 := kept_at HP1.out hbn
  have r1 := ownsRow_grown H1.out hbn
  have r2 := ownsRow_grown H2.out hbn
  have r3 := fun j n q a b => ownsRow_grown (H3.out j n q a b) hbn
  have R1 := Lib.hid r1
  have R2 := Lib.hid r2
  have R3 := Lib.hid r3
  have h69 := HB78.out.trans (hbn.mono HB78.out.size)
  have H69 := Lib.hid h69
  have hw6 := HB6.out.size
  have K0 := Lib.hid k0
  have K1 := Lib.hid k1
  have K4 := Lib.hid k4
  have K5 := Lib.hid k5
  have P0 := Lib.hid kp0
  have P1 := Lib.hid kp1
  have hz9 := h69.size
  clear hS hbn r1 r2 r3 h69 k0 k1 kp0 kp1 H1 H2 H3 HS1 HS2 HS3 HS4 HP0 HP1
  go_wp2
  go_loopw [7] (fun c wr => ∃ k : Nat, k ≤ ns.length ∧ c = .int .i64 k ∧ Kin w9 wr ∧ Below W6.heap.size w9 wr) (fun c _ => ns.length - (intOf c).toNat)
  case atStart => exact ⟨0, Nat.zero_le _, rfl, Kin.refl _, Below.refl _ _⟩
  case round =>
    clear k4 k5
    obtain ⟨k, hk, rfl, hkin, hbel⟩ := hrel
    have k5 := hkin.2.2.1 _ _ _ _ K5.out
    by_cases hlt : k < ns.length
    · obtain ⟨n, hn⟩ : ∃ n, ns[k]? = some n := ⟨_, List.getElem?_eq_getElem hlt⟩
      obtain ⟨q, hqk⟩ : ∃ q, qs[k]? = some q := ⟨_, List.getElem?_eq_getElem (by omega)⟩
      have hkl' := hkl n (List.mem_of_getElem? hn)
      have hrow := R3.out k n q hn hqk
      obtain ⟨qa, qc, rfl⟩ := own_slice' hrow
      obtain ⟨g, rfl, hg, hcs, hfz⟩ := own_open R2.out (by omega)
      have hzip := zip_at hn hqk
      have u0 := hcs (k * 7 + 0) _ (nodesC_at (j := 0) hzip (by decide))
      have u1 := hcs (k * 7 + 1) _ (nodesC_at (j := 1) hzip (by decide))
      rw [Nat.add_zero] at u0
      obtain ⟨y, v0⟩ := hkin.1 _ _ u0
      have v1 := hkin.2.2.1 _ _ _ _ u1
      have vf := hkin.2.2.2 _ (hfz (k * 7))
      have j1 : (k : Int) < (ns.length : Int) := by omega
      have U1 := Lib.hid u1
      have HROW := Lib.hid hrow
      have HKI := Lib.hid (fun z => hkin.int v0 z)
      have HBE := Lib.hid hbel
      clear hn hqk hcs hzip u0 u1 hfz hkin hrow
      go_wp2
      go_loopw [8] (fun c wq => ∃ j : Nat, j ≤ n.kids.length ∧ c = .int .i64 j ∧ Kin w9 wq ∧ Below W6.heap.size w9 wq) (fun c _ => n.kids.length - (intOf c).toNat)
      case atStart => exact ⟨0, Nat.zero_le _, rfl, HKI.out _, HBE.out.setCell (p := ⟨g, k * 7, none⟩) hg _⟩
      case round =>
        clear k5 v0 v1 vf
        obtain ⟨j, hj, rfl, hkin, hbel2⟩ := hrel
        have k5 := hkin.2.2.1 _ _ _ _ K5.out
        have v1 := hkin.2.2.1 _ _ _ _ U1.out
        by_cases hjl : j < n.kids.length
        · obtain ⟨g2, rfl, hg2, hcs, hfz⟩ := own_open HROW.out (by omega)
          obtain ⟨z, hz⟩ : ∃ z, n.kids[j]? = some z := ⟨_, List.getElem?_eq_getElem hjl⟩
          have u2 := hcs j (.int .i64 z) (by unfold intsV; rw [List.getElem?_map, hz]; rfl)
          obtain ⟨y2, v2⟩ := hkin.1 _ _ u2
          have vf := hkin.2.2.2 _ (hfz j)
          have j2 : (j : Int) < (n.kids.length : Int) := by omega
          have HKI2 := Lib.hid (fun z => hkin.int v2 z)
          have HBE2 := Lib.hid hbel2
          clear hcs hfz u2 hkin hz hbel2
          go_wp2
          go_roundw
          case rel => exact ⟨j + 1, by omega, by go_num, HKI2.out _, HBE2.out.setCell (p := ⟨g2, j, none⟩) hg2 _⟩
          case measure => simp [intOf]; omega
        · have j2 : ¬ (j : Int) < (n.kids.length : Int) := by omega
          have HKI2 := Lib.hid hkin
          have HBE2 := Lib.hid hbel2
          clear hkin hbel2
          go_wp2
          go_roundw
          case rel => exact ⟨k + 1, by omega, by go_num, HKI2.out, HBE2.out⟩
          case measure => simp [intOf]; omega
    · have j1 : ¬ (k : Int) < (ns.length : Int) := by omega
      have HKI := Lib.hid hkin
      have HBE := Lib.hid hbel
      clear hkin hbel
      go_wp2
      go_loopw [9] (fun c wq => ∃ j : Nat, j ≤ rs.length ∧ c = .int .i64 j ∧ Kin w9 wq ∧ Below W6.heap.size w9 wq) (fun c _ => rs.length - (intOf c).toNat)
      case atStart => exact ⟨0, Nat.zero_le _, rfl, HKI.out, HBE.out⟩
      case round =>
        clear k5 HKI HBE
        obtain ⟨j, hj, rfl, hkin, hbel⟩ := hrel
        have k4 := hkin.2.2.1 _ _ _ _ K4.out
        by_cases hjl : j < rs.length
        · obtain ⟨r, hr⟩ : ∃ r, rs[j]? = some r := ⟨_, List.getElem?_eq_getElem hjl⟩
          obtain ⟨g, rfl, hg, hcs, hfz⟩ := own_open R1.out (by omega)
          have u0 := hcs (j * 2 + 0) _ (rulesC_at (j := 0) hr (by decide))
          rw [Nat.add_zero] at u0
          obtain ⟨y, v0⟩ := hkin.2.1 _ _ u0
          have vf := hkin.2.2.2 _ (hfz (j * 2))
          have j2 : (j : Int) < (rs.length : Int) := by omega
          have HKI2 := Lib.hid (fun z => hkin.str v0 z)
          have HBE2 := Lib.hid hbel
          clear hcs hfz u0 hkin hr hbel
          go_wp2
          go_roundw
          case rel => exact ⟨j + 1, by omega, by go_num, HKI2.out _, HBE2.out.setCell (p := ⟨g, j * 2, none⟩) hg _⟩
          case measure => simp [intOf]; omega
        · have j2 : ¬ (j : Int) < (rs.length : Int) := by omega
          have a0 := hkin.2.2.1 _ _ _ _ K0.out
          have a1 := hkin.2.2.1 _ _ _ _ K1.out
          have m0 := hkin.2.2.1 _ _ _ _ P0.out
          have m1 := hkin.2.2.1 _ _ _ _ P1.out
          have hb1 := H69.out.trans hbel
          have hb2 := HB6.out.trans (hb1.mono hw6)
          have hE : Calls Try.prog 18 #[.agg #[.slice oa rs.length oc, .slice pa ns.length pc], .agg #[.slice ra rs.length c1, .slice na ns.length c2]] wr fun e w' => e = .returned (.bool true) ∧ Below wr.heap.size wr w' := by
            have := rsame_any _ _ _ _ rs rs ns ns wr (HO1.out.kept hb1 (Nat.le_refl _)) (HO2.out.kept hb1 (Nat.le_refl _)) (HRB.out.kept hb2 (Nat.le_refl _)) (HNB.out.kept hb2 (Nat.le_refl _))
            rw [decide_eq_true ⟨rfl, rfl⟩] at this; exact this
          have HE := Lib.hid hE
          have HB2 := Lib.hid hb2
          clear hE hb1 hb2 hkin hbel
          go_wp2_with (go_at_call 18; (with_reducible refine HE.out.mono ?_); rintro e w10 ⟨rfl, hb⟩; have HBX := Lib.hid (HB2.out.trans (hb.mono HB2.out.size)); clear hb)
          go_ret
          exact ⟨rfl, HBX.out⟩
theorem copies_any (hA : GramAwake) (rv nv rv2 nv2 : Value) (rs ts : List PR) (ns ms : List PN) (w : World) (hR : RulesIn w rv rs) (hN : NodesAt w nv ns) (hR2 : RulesIn w rv2 ts) (hN2 : NodesAt w nv2 ms) :
    Calls Try.prog 4 #[.agg #[rv, nv], .agg #[rv2, nv2]] w fun e w' => e = .returned (.bool true) ∧ Below w.heap.size w w' := by
  have hf : Thn 14 #[.agg #[rv, nv]] w (fun W e w' => e = .returned (.bool (fewB rs ns)) ∧ Below W.heap.size W w') := fun W hb => few_any rv nv rs ns W (hR.kept hb (Nat.le_refl _)) (hN.kept hb (Nat.le_refl _))
  have hf2 : Thn 14 #[.agg #[rv2, nv2]] w (fun W e w' => e = .returned (.bool (fewB ts ms)) ∧ Below W.heap.size W w') := fun W hb => few_any rv2 nv2 ts ms W (hR2.kept hb (Nat.le_refl _)) (hN2.kept hb (Nat.le_refl _))
  have hR' := hR
  have hN' := hN
  have hR2' := hR2
  have hN2' := hN2
  obtain ⟨-, ra, rc, rfl, -⟩ := hR'
  obtain ⟨-, na, nc, rfl, -⟩ := hN'
  obtain ⟨-, rb, rc2, rfl, -⟩ := hR2'
  obtain ⟨-, nb, nc2, rfl, -⟩ := hN2'
  cases h1 : fewB rs ns with
  | false => rw [h1] at hf; exact copies_few1 hA _ _ _ _ _ _ _ _ _ _ _ _ w hf
  | true =>
    rw [h1] at hf
    obtain ⟨hnm, hkl, hrl, hnl⟩ := fewB_yes h1
    cases h2 : fewB ts ms with
    | false => rw [h2] at hf2; exact copies_few2 hA _ _ _ _ _ _ _ _ _ _ _ _ w hf hf2
    | true => rw [h2] at hf2; exact copies_good hA _ _ _ _ _ _ _ _ rs ts ns ms w hf hf2 hR hN hR2 hN2 hnm hkl hrl hnl
end Go.Proofs.Ytbhejkjgebhpoaa
