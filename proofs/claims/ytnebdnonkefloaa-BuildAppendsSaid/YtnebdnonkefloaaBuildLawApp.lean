/- The walk of the law BuildAppends. -/
import Derived.Test.YtnebdnonkefloaaBuildAwake
namespace Go.Proofs.Ytnebdnonkefloaa
open Go.RowKit
theorem kept_at' {w W : World} {b o : Nat} {v : Value} (h : w.cell? ⟨b, o, none⟩ = some v) (hb : Below w.heap.size w W) : W.cell? ⟨b, o, none⟩ = some v := by
  rw [(bcell hb).1 b o (lt_of_cell h)]; exact h
/-- A store into a row of the caller's own. -/
theorem own_set {W : World} {base : Nat} {e : TypeId} {size n c g j : Nat} {xs : List Value} (h : W.ownsRow base e size (.slice (some ⟨g, 0, none⟩) n c) n xs) (u : Value) : (W.setCell ⟨g, j, none⟩ u).ownsRow base e size (.slice (some ⟨g, 0, none⟩) n c) n (xs.set j u) := by
  obtain ⟨hl, h⟩ := h
  refine ⟨by rw [List.length_set]; exact hl, ?_⟩
  rcases h with ⟨h, -⟩ | ⟨g', cap, cur, hv, hb, hh, h1, h2, h3, h4⟩
  · cases h
  · injection hv with e1 e2 e3
    injection e1 with e1
    injection e1 with e1
    subst e1 e3
    refine .inr ⟨g, c, cur.setIfInBounds j u, rfl, hb, heap_setCell_same W g j _ _ u hh, h1, h2, by simpa using h3, ?_⟩
    rw [← h4]
    rw [Array.toList_setIfInBounds, List.take_set]

theorem own_open' {W : World} {base : Nat} {e : TypeId} {size n c : Nat} {a : Option Addr} {xs : List Value} (h : W.ownsRow base e size (.slice a n c) n xs) (hn : 0 < n) : ∃ g, a = some ⟨g, 0, none⟩ ∧ base ≤ g ∧ (∀ j u, xs[j]? = some u → W.cell? ⟨g, j, none⟩ = some u) ∧ ∀ o, W.frozen? ⟨g, o, none⟩ = false := by
  have h' := h
  rcases h.2 with ⟨-, e0⟩ | ⟨g, cap, cur, e, hb, -⟩
  · omega
  · injection e with e1 e2 e3
    subst e1 e3
    exact ⟨g, rfl, hb, fun j u hu => by have := h'.cells rfl j u hu; rw [Addr.add_lit, Nat.zero_add] at this; exact this, fun o => h'.frozenAt o⟩
def Thn' (f : Nat) (g : Array Value) (w : World) (P : World → Ending → World → Prop) : Prop := ∀ W, Below w.heap.size w W → Calls Try.prog f g W (P W)
set_option maxHeartbeats 8000000 in
set_option maxRecDepth 100000 in
theorem appends_few1 (hA : BuildAwake) (ra na rb nb : Option Addr) (n1 c1 n2 c2 n3 c3 n4 c4 : Nat) (i : Int) (w : World) (hF : Thn' 20 #[.agg #[.slice ra n1 c1, .slice na n2 c2]] w (fun W e w' => e = .returned (.bool false) ∧ Below W.heap.size W w')) :
    Calls Try.prog 6 #[.agg #[.slice ra n1 c1, .slice na n2 c2], .agg #[.slice rb n3 c3, .slice nb n4 c4], .int .u16 i] w fun e w' => e = .returned (.bool true) ∧ Below w.heap.size w w' := by
  unfold BuildAwake at hA
  unfold Thn' at hF
  have HA := Lib.hid hA
  have HF := Lib.hid hF
  clear hA hF
  go_enter Try.func6, Try.ntmps6
  go_upto_region 2 with (first
    | (go_at_call 8; (with_reducible refine (HA.out _).mono ?_); rintro e w2 ⟨rfl, hb⟩; have HW := Lib.hid ((two_new w _ _).trans (hb.mono (two_new w _ _).size)); have b0 := (bcell hb).1 w.heap.size 0 (by simp; omega); have b1 := (bcell hb).1 w.heap.size 1 (by simp; omega); simp at b0 b1; clear hb)
    | (go_at_call 20; (with_reducible refine (HF.out _ HW.out).mono ?_); rintro e w3 ⟨rfl, hb⟩; replace HW := Lib.hid (HW.out.trans (hb.mono HW.out.size)); clear hb))
  go_wp2_with (go_at_call 8; (with_reducible refine (HA.out _).mono ?_); rintro e w4 ⟨rfl, hb⟩; replace HW := Lib.hid (HW.out.trans (hb.mono HW.out.size)); clear hb)
  go_ret
  exact ⟨rfl, HW.out⟩
set_option maxHeartbeats 8000000 in
set_option maxRecDepth 100000 in
theorem appends_few2 (hA : BuildAwake) (ra na rb nb : Option Addr) (n1 c1 n2 c2 n3 c3 n4 c4 : Nat) (i : Int) (w : World) (hF : Thn' 20 #[.agg #[.slice ra n1 c1, .slice na n2 c2]] w (fun W e w' => e = .returned (.bool true) ∧ Below W.heap.size W w')) (hF2 : Thn' 14 #[.agg #[.slice rb n3 c3, .slice nb n4 c4]] w (fun W e w' => e = .returned (.bool false) ∧ Below W.heap.size W w')) :
    Calls Try.prog 6 #[.agg #[.slice ra n1 c1, .slice na n2 c2], .agg #[.slice rb n3 c3, .slice nb n4 c4], .int .u16 i] w fun e w' => e = .returned (.bool true) ∧ Below w.heap.size w w' := by
  unfold BuildAwake at hA
  unfold Thn' at hF hF2
  have HA := Lib.hid hA
  have HF := Lib.hid hF
  have HF2 := Lib.hid hF2
  clear hA hF hF2
  go_enter Try.func6, Try.ntmps6
  go_upto_region 2 with (first
    | (go_at_call 8; (with_reducible refine (HA.out _).mono ?_); rintro e w2 ⟨rfl, hb⟩; have HW := Lib.hid ((two_new w _ _).trans (hb.mono (two_new w _ _).size)); have b0 := (bcell hb).1 w.heap.size 0 (by simp; omega); have b1 := (bcell hb).1 w.heap.size 1 (by simp; omega); have b2 := (bcell hb).1 (w.heap.size + 1) 0 (by simp); have b3 := (bcell hb).1 (w.heap.size + 1) 1 (by simp); simp at b0 b1 b2 b3; clear hb)
    | (go_at_call 20; (with_reducible refine (HF.out _ HW.out).mono ?_); rintro e w3 ⟨rfl, hb⟩; replace HW := Lib.hid (HW.out.trans (hb.mono HW.out.size)); replace b2 := kept_at' b2 hb; replace b3 := kept_at' b3 hb; clear hb b0 b1)
    | (go_at_call 14; (with_reducible refine (HF2.out _ HW.out).mono ?_); rintro e w4 ⟨rfl, hb⟩; replace HW := Lib.hid (HW.out.trans (hb.mono HW.out.size)); clear hb))
  go_wp2_with (go_at_call 8; (with_reducible refine (HA.out _).mono ?_); rintro e w5 ⟨rfl, hb⟩; replace HW := Lib.hid (HW.out.trans (hb.mono HW.out.size)); clear hb)
  go_ret
  exact ⟨rfl, HW.out⟩
/-- The kinds of all cells stay; slices stay as they are. -/
def Kin6 (w w' : World) : Prop := (∀ a x, w.cell? a = some (.int .i64 x) → ∃ y, w'.cell? a = some (.int .i64 y)) ∧ (∀ a s, w.cell? a = some (.string s) → ∃ y, w'.cell? a = some (.string y)) ∧
  (∀ a p n c, w.cell? a = some (.slice p n c) → w'.cell? a = some (.slice p n c)) ∧ ∀ a, w.frozen? a = false → w'.frozen? a = false
theorem Kin6.refl (w : World) : Kin6 w w := ⟨fun _ x h => ⟨x, h⟩, fun _ s h => ⟨s, h⟩, fun _ _ _ _ h => h, fun _ h => h⟩
theorem Kin6.int {w W : World} (h : Kin6 w W) {p : Addr} {x : Int} (hp : W.cell? p = some (.int .i64 x)) (y : Int) : Kin6 w (W.setCell p (.int .i64 y)) := by
  obtain ⟨h1, h2, h3, h4⟩ := h
  refine ⟨fun a z ha => ?_, fun a z ha => ?_, fun a q n c ha => ?_, fun a ha => by simpa using h4 a ha⟩
  · by_cases e : a = p
    · subst e; exact ⟨y, World.cell?_setCell_same' _ _ _ (by rw [hp]; rfl)⟩
    · obtain ⟨u, hu⟩ := h1 a z ha
      exact ⟨u, by rw [World.cell?_setCell_other (h := fun h => e h.symm)]; exact hu⟩
  · obtain ⟨u, hu⟩ := h2 a z ha
    by_cases e : a = p
    · subst e; rw [hp] at hu; cases hu
    · exact ⟨u, by rw [World.cell?_setCell_other (h := fun h => e h.symm)]; exact hu⟩
  · have hu := h3 a q n c ha
    by_cases e : a = p
    · subst e; rw [hp] at hu; cases hu
    · rw [World.cell?_setCell_other (h := fun h => e h.symm)]; exact hu
theorem Kin6.str {w W : World} (h : Kin6 w W) {p : Addr} {x : ByteArray} (hp : W.cell? p = some (.string x)) (y : ByteArray) : Kin6 w (W.setCell p (.string y)) := by
  obtain ⟨h1, h2, h3, h4⟩ := h
  refine ⟨fun a z ha => ?_, fun a z ha => ?_, fun a q n c ha => ?_, fun a ha => by simpa using h4 a ha⟩
  · obtain ⟨u, hu⟩ := h1 a z ha
    by_cases e : a = p
    · subst e; rw [hp] at hu; cases hu
    · exact ⟨u, by rw [World.cell?_setCell_other (h := fun h => e h.symm)]; exact hu⟩
  · by_cases e : a = p
    · subst e; exact ⟨y, World.cell?_setCell_same' _ _ _ (by rw [hp]; rfl)⟩
    · obtain ⟨u, hu⟩ := h2 a z ha
      exact ⟨u, by rw [World.cell?_setCell_other (h := fun h => e h.symm)]; exact hu⟩
  · have hu := h3 a q n c ha
    by_cases e : a = p
    · subst e; rw [hp] at hu; cases hu
    · rw [World.cell?_setCell_other (h := fun h => e h.symm)]; exact hu
def RowsIs (rs : List PR) (ns : List PN) (W : World) (e : Ending) (w' : World) : Prop := ∃ ra rc na nc qs, e = .returned (.agg #[.slice ra rs.length rc, .slice na ns.length nc]) ∧ w'.ownsRow W.heap.size 70 2 (.slice ra rs.length rc) rs.length (rulesC rs) ∧ NRow W.heap.size (.slice na ns.length nc) ns qs w' ∧ Below W.heap.size W w'
theorem rows_of {rs : List PR} {ns : List PN} {W w' : World} {e : Ending} (h : CloneIs rs ns W e w') : RowsIs rs ns W e w' := by
  obtain ⟨rv, nv, qs, rfl, hq, h1, h2, h3, hb⟩ := h
  obtain ⟨ra, rc, rfl⟩ := own_slice' h1
  obtain ⟨na, nc, rfl⟩ := own_slice' h2
  exact ⟨ra, rc, na, nc, qs, rfl, h1, ⟨hq, h2, h3⟩, hb⟩
def AppRowsIs (rs : List PR) (ns' : List PN) (W : World) (e : Ending) (w' : World) : Prop := ∃ ra rc na nc qs, e = .returned (.tuple #[.agg #[.slice ra rs.length rc, .slice na ns'.length nc], .int .i64 ((ns'.length : Int) - 1)]) ∧ w'.ownsRow W.heap.size 70 2 (.slice ra rs.length rc) rs.length (rulesC rs) ∧ NRow W.heap.size (.slice na ns'.length nc) ns' qs w' ∧ Below W.heap.size W w'
theorem approws_of {rs : List PR} {ns : List PN} {W w' : World} {e : Ending} (h : AppendIs rs ns W e w') : AppRowsIs rs ns W e w' := by
  obtain ⟨rv, nv, qs, rfl, h1, h2, hb⟩ := h
  obtain ⟨ra, rc, rfl⟩ := own_slice' h1
  obtain ⟨na, nc, rfl⟩ := own_slice' h2.2.1
  exact ⟨ra, rc, na, nc, qs, rfl, h1, h2, hb⟩
def mixK (ks : List Int) (d : Int) (m : Nat) : List Int := (ks.take m).map (· + d) ++ ks.drop m
theorem mixK_length (ks : List Int) (d : Int) (m : Nat) : (mixK ks d m).length = ks.length := by
  unfold mixK; rw [List.length_append, List.length_map, List.length_take, List.length_drop]; omega
theorem mixK_at {ks : List Int} {d : Int} {m : Nat} {k : Int} (h : ks[m]? = some k) : (mixK ks d m)[m]? = some k := by
  have hm := (List.getElem?_eq_some_iff.1 h).1
  have hl : ((ks.take m).map (· + d)).length = m := by rw [List.length_map, List.length_take]; omega
  unfold mixK
  rw [List.getElem?_append_right (by omega), hl, Nat.sub_self, List.getElem?_drop]
  exact h
theorem mixK_set {ks : List Int} {d : Int} {m : Nat} {k : Int} (h : ks[m]? = some k) : (mixK ks d m).set m (k + d) = mixK ks d (m + 1) := by
  obtain ⟨hm, hk⟩ := List.getElem?_eq_some_iff.1 h
  have hl : ((ks.take m).map (· + d)).length = m := by rw [List.length_map, List.length_take]; omega
  unfold mixK
  rw [List.set_append_right _ _ (by omega), hl, Nat.sub_self, List.drop_eq_getElem_cons hm, List.set_cons_zero, take_snoc' ks m k h, List.map_append, List.append_assoc]
  rfl
def InnerS (base Y : Nat) (cs : Array Value) (q : Value) (ks : List Int) (d : Int) (w : World) (m : Nat) (wq : World) : Prop := Below base w wq ∧ Bl wq Y 55 cs ∧ wq.ownsRow base 3 1 q ks.length (intsV (mixK ks d m))
theorem InnerS.step {base Y kg m qc : Nat} {cs : Array Value} {ks : List Int} {k d : Int} {w wq : World} (h : InnerS base Y cs (.slice (some ⟨kg, 0, none⟩) ks.length qc) ks d w m wq) (hk : ks[m]? = some k) (hg : base ≤ kg) : InnerS base Y cs (.slice (some ⟨kg, 0, none⟩) ks.length qc) ks d w (m + 1) (wq.setCell ⟨kg, m, none⟩ (.int .i64 (k + d))).drew := by
  obtain ⟨h1, h2, h3⟩ := h
  have hne : Y ≠ kg := fun e => own_ne h3 h2 (by decide) (by rw [e]; rfl)
  have := own_set h3 (j := m) (.int .i64 (k + d))
  rw [show (intsV (mixK ks d m)).set m (.int .i64 (k + d)) = intsV (mixK ks d (m + 1)) by unfold intsV; rw [← mixK_set hk, List.map_set]] at this
  exact ⟨(h1.setCell (p := ⟨kg, m, none⟩) hg _).drew, (h2.other hne _).below (below_drew1 _), ownsRow_grown this (below_drew1 _)⟩
def WantS (w9 : World) (T : Nat) (rs : List PR) (ns sub : List PN) (rv : Value) (tqs : List Value) (j : Nat) (wr : World) : Prop :=
  ∃ u t, Bl wr T 36 #[rv, u] ∧ wr.ownsRow w9.heap.size 70 2 rv rs.length (rulesC rs) ∧ NRow w9.heap.size u (ns ++ sub.take j) (tqs ++ t) wr ∧ Below w9.heap.size w9 wr ∧ w9.heap.size ≤ T
theorem mixK_all (ks : List Int) (d : Int) : mixK ks d ks.length = ks.map (· + d) := by
  unfold mixK; rw [List.take_length, List.drop_length, List.append_nil]
theorem WantS.step {w9 wo wq w5 : World} {T j b' : Nat} {rs : List PR} {ns sub M : List PN} {x : PN} {rv u v' q : Value} {tqs t : List Value} {o : Obj} (hs : sub[j]? = some x) (hM : ns ++ sub.take j = M) (hTB : Bl wo T 36 #[rv, u]) (hTR : wo.ownsRow w9.heap.size 70 2 rv rs.length (rulesC rs)) (hTN : NRow w9.heap.size u M (tqs ++ t) wo) (hBW : Below w9.heap.size w9 wo) (hT9 : w9.heap.size ≤ T)
    (hI : Below wo.heap.size wo wq) (hb' : w9.heap.size ≤ b') (hq : wq.ownsRow b' 3 1 q x.kids.length (intsV x.kids)) (hown : w5.ownsRow w9.heap.size 55 7 v' (M.length + 1) (nodesC (M.zip (tqs ++ t)) ++ nodeC (x, q))) (hg : (wq.alloc o).grownBy w5 u.ownBlock) : WantS w9 T rs ns sub rv tqs (j + 1) (w5.setCell ⟨T, 1, none⟩ v') := by
  have hb1 := one_new wq o
  have hb : Below wo.heap.size wo (wq.alloc o) := hI.trans (hb1.mono hI.size)
  have hr := hTN.grown hb
  have kind : ∀ g, u.ownBlock = some g → ∃ c fz, (wq.alloc o).heap[g]? = some (.cells c 55 fz) := fun g hv => Lib.ownsRow_kind hr.2.1 g hv
  have b5 : Bl w5 T 36 #[rv, u] := (hTB.below hb).grown hg (fun g e => by obtain ⟨c, fz, hc⟩ := kind g e; exact ⟨c, _, fz, hc, by decide⟩)
  have r5 := own_kept' (ownsRow_grown hTR hb) hg kind (by decide)
  have n5 := hr.snoc (own_mono (ownsRow_grown hq hb1) hb') hown hg
  have hl : ns ++ sub.take (j + 1) = M ++ [x] := by rw [take_snoc' sub j x hs, ← List.append_assoc, hM]
  refine ⟨v', t ++ [q], b5.set' (o := 1) v', ownsRow_setCell_other r5 (a := ⟨T, 1, none⟩) (own_ne r5 b5 (by decide)) _, ?_, ((hBW.trans (hb.mono hBW.size)).grown hg (Nat.le_trans hBW.size hb.size) (fun g e => (hTN.2.1.lt g e).1)).setCell (p := ⟨T, 1, none⟩) hT9 _, hT9⟩
  rw [hl, ← List.append_assoc]
  exact n5.set_typ b5 (by decide) (by decide) _
set_option maxHeartbeats 8000000 in
set_option maxRecDepth 100000 in
theorem appends_good (hA : BuildAwake) (ra na rb nb : Option Addr) (c1 c2 c3 c4 a i f : Nat) (rs ts : List PR) (ns ms L : List PN) (w : World) (hF : Thn' 20 #[.agg #[.slice ra rs.length c1, .slice na ns.length c2]] w (fun W e w' => e = .returned (.bool true) ∧ Below W.heap.size W w')) (hF2 : Thn' 14 #[.agg #[.slice rb ts.length c3, .slice nb ms.length c4]] w (fun W e w' => e = .returned (.bool true) ∧ Below W.heap.size W w'))
    (hC1 : Thn' 21 #[.agg #[.slice ra rs.length c1, .slice na ns.length c2]] w (RowsIs rs ns)) (hE : Thn' 23 #[.agg #[.slice rb ts.length c3, .slice nb ms.length c4], .int .i64 i] w (fun W e w' => e = .returned (.int .i64 ((f : Int) - 1)) ∧ Below W.heap.size W w'))
    (hAp : ∀ (oa pa : Option Addr) (oc pc : Nat) (W : World), Below w.heap.size w W → RulesIn W (.slice oa rs.length oc) rs → NodesAt W (.slice pa ns.length pc) ns → Calls Try.prog 22 #[.agg #[.slice oa rs.length oc, .slice pa ns.length pc], .agg #[.slice rb ts.length c3, .slice nb ms.length c4], .int .i64 i] W (AppRowsIs rs L W))
    (hC2 : Thn' 21 #[.agg #[.slice rb ts.length c3, .slice nb ms.length c4]] w (RowsIs ts ms)) (hmk : ∀ n, n ∈ ms → n.kids.length ≤ 60 ∧ ∀ k, k ∈ n.kids → 0 ≤ k ∧ k ≤ 1000)
    (hi : (a : Int) % (ms.length : Int) = (i : Int)) (hil : i < ms.length) (hfi : f ≤ i) (ha : a ≤ 65535) (hnl : ns.length ≤ 300) (hml : ms.length ≤ 300) (hrl : rs.length ≤ 30) (hkl : ∀ n, n ∈ ns → n.kids.length ≤ 60) (hLl : L.length = ns.length + (i + 1 - f)) (hLeq : ns ++ ((ms.drop f).take (i + 1 - f)).map (movN ((ns.length : Int) - f)) = L) (hLk : ∀ n, n ∈ L → n.kids.length ≤ 60) (hgR : RulesIn w (.slice ra rs.length c1) rs) (hgN : NodesAt w (.slice na ns.length c2) ns) :
    Calls Try.prog 6 #[.agg #[.slice ra rs.length c1, .slice na ns.length c2], .agg #[.slice rb ts.length c3, .slice nb ms.length c4], .int .u16 (a : Int)] w fun e w' => e = .returned (.bool true) ∧ Below w.heap.size w w' := by
  unfold BuildAwake at hA
  unfold Thn' at hF hF2 hC1 hE hC2
  unfold RowsIs at hC1 hC2
  unfold AppRowsIs at hAp
  have HA := Lib.hid hA
  have HF := Lib.hid hF
  have HF2 := Lib.hid hF2
  have HC1 := Lib.hid hC1
  have HE := Lib.hid hE
  have HC2 := Lib.hid hC2
  have HMK := Lib.hid hmk
  have HAP := Lib.hid hAp
  have HKL := Lib.hid hkl
  have hLb : L.length ≤ 700 := by omega
  have HLL := Lib.hid hLl
  have HLEQ := Lib.hid hLeq
  have HLK := Lib.hid hLk
  have HGGR := Lib.hid hgR
  have HGGN := Lib.hid hgN
  have hnz : ¬ (ms.length : Int) = 0 := by omega
  have hnp : (0 : Int) < (ms.length : Int) := by omega
  have qz : ((ms.length : Int) == 0) = false := ibeq_no (by omega)
  clear hA hF hF2 hC1 hC2 hmk hE hAp hkl hLl hLeq hLk hgR hgN
  go_enter Try.func6, Try.ntmps6
  go_upto_region 4 with (first
    | (go_at_call 8; (with_reducible refine (HA.out _).mono ?_); rintro e w2 ⟨rfl, hb⟩; have HW := Lib.hid ((two_new w _ _).trans (hb.mono (two_new w _ _).size)); have b0 := (bcell hb).1 w.heap.size 0 (by simp; omega); have b1 := (bcell hb).1 w.heap.size 1 (by simp; omega); have b2 := (bcell hb).1 (w.heap.size + 1) 0 (by simp); have b3 := (bcell hb).1 (w.heap.size + 1) 1 (by simp); simp at b0 b1 b2 b3; clear hb)
    | (go_at_call 20; (with_reducible refine (HF.out _ HW.out).mono ?_); rintro e w3 ⟨rfl, hb⟩; replace HW := Lib.hid (HW.out.trans (hb.mono HW.out.size)); replace b0 := kept_at' b0 hb; replace b1 := kept_at' b1 hb; replace b2 := kept_at' b2 hb; replace b3 := kept_at' b3 hb; clear hb)
    | (go_at_call 14; (with_reducible refine (HF2.out _ HW.out).mono ?_); rintro e w4 ⟨rfl, hb⟩; replace HW := Lib.hid (HW.out.trans (hb.mono HW.out.size)); replace b0 := kept_at' b0 hb; replace b1 := kept_at' b1 hb; replace b2 := kept_at' b2 hb; replace b3 := kept_at' b3 hb; clear hb))
  rw [hi]
  clear hi qz hnz hnp HF HF2 HA
  go_upto_region 5 with (go_at_call 21; (with_reducible refine (HC1.out _ HW.out).mono ?_); rintro e w5 ⟨oa, oc, pa, pc, oqs, rfl, ho1, ho2, hb⟩; have HO1 := Lib.hid ho1; have HO2 := Lib.hid ho2; have HB5 := Lib.hid hb; replace b0 := kept_at' b0 hb; replace b1 := kept_at' b1 hb; replace b2 := kept_at' b2 hb; replace b3 := kept_at' b3 hb; clear hb ho1 ho2)
  obtain ⟨W6, hW6⟩ : ∃ W6, w5.alloc (.cells #[.slice oa rs.length oc, .slice pa ns.length pc] 36) = W6 := ⟨_, rfl⟩
  obtain ⟨O, hO⟩ : ∃ O, w5.heap.size = O := ⟨_, rfl⟩
  have hb56 : Below w5.heap.size w5 W6 := by rw [← hW6]; exact one_new _ _
  have hOB : Bl W6 O 36 #[.slice oa rs.length oc, .slice pa ns.length pc] := by rw [← hW6, ← hO]; exact Bl.new _ _ _
  have hOR : RulesIn W6 (.slice oa rs.length oc) rs := RulesIn.of_own (ownsRow_grown HO1.out hb56) (by unfold maxLen; omega)
  have hON : NodesAt W6 (.slice pa ns.length pc) ns := (HO2.out.grown hb56).nodes (by unfold maxLen; omega) (fun n hn => by have := HKL.out n hn; unfold maxLen; omega)
  replace b0 := kept_at' b0 hb56
  replace b1 := kept_at' b1 hb56
  replace b2 := kept_at' b2 hb56
  replace b3 := kept_at' b3 hb56
  have o0 := hOB.cell (o := 0) (u := .slice oa rs.length oc) rfl
  have o1 := hOB.cell (o := 1) (u := .slice pa ns.length pc) rfl
  have HW6 := Lib.hid (HW.out.trans ((HB5.out.trans (hb56.mono HB5.out.size)).mono HW.out.size))
  have HOR := Lib.hid hOR
  have HON := Lib.hid hON
  rw [hW6, hO]
  clear hW6 hO hb56 hOB hOR hON HO1 HO2 HB5 HW
  go_upto_region 6 with (go_at_call 22; (with_reducible refine (HAP.out oa pa oc pc _ HW6.out HOR.out HON.out).mono ?_); rintro e w7 ⟨ga, gc, ka, kc, gqs, rfl, hg1, hg2, hb⟩; have HG1 := Lib.hid hg1; have HG2 := Lib.hid hg2; have HB7 := Lib.hid hb; replace b0 := kept_at' b0 hb; replace b1 := kept_at' b1 hb; replace b2 := kept_at' b2 hb; replace b3 := kept_at' b3 hb; replace o0 := kept_at' o0 hb; replace o1 := kept_at' o1 hb; clear hb hg1 hg2)
  obtain ⟨W8, hW8⟩ : ∃ W8, w7.alloc (.cells #[.slice ga rs.length gc, .slice ka L.length kc] 36) = W8 := ⟨_, rfl⟩
  obtain ⟨G, hG⟩ : ∃ G, w7.heap.size = G := ⟨_, rfl⟩
  have hb78 : Below w7.heap.size w7 W8 := by rw [← hW8]; exact one_new _ _
  have hGB : Bl W8 G 36 #[.slice ga rs.length gc, .slice ka L.length kc] := by rw [← hW8, ← hG]; exact Bl.new _ _ _
  replace b0 := kept_at' b0 hb78
  replace b1 := kept_at' b1 hb78
  replace b2 := kept_at' b2 hb78
  replace b3 := kept_at' b3 hb78
  replace o0 := kept_at' o0 hb78
  replace o1 := kept_at' o1 hb78
  have g0 := hGB.cell (o := 0) (u := .slice ga rs.length gc) rfl
  have g1 := hGB.cell (o := 1) (u := .slice ka L.length kc) rfl
  have HB68 := Lib.hid (HB7.out.trans (hb78.mono HB7.out.size))
  have HW8 := Lib.hid (HW6.out.trans (HB68.out.mono HW6.out.size))
  have HGR := Lib.hid (ownsRow_grown HG1.out hb78)
  have HGN := Lib.hid (HG2.out.grown hb78)
  rw [hW8, hG]
  clear hW8 hG hb78 hGB HG1 HG2 HB7
  go_upto_region 8 with (go_at_call 23; (with_reducible refine (HE.out _ HW8.out).mono ?_); rintro e w9 ⟨rfl, hb⟩; have HB89 := Lib.hid hb; replace b0 := kept_at' b0 hb; replace b1 := kept_at' b1 hb; replace b2 := kept_at' b2 hb; replace b3 := kept_at' b3 hb; replace o0 := kept_at' o0 hb; replace o1 := kept_at' o1 hb; replace g0 := kept_at' g0 hb; replace g1 := kept_at' g1 hb; clear hb)
  have B2 := Lib.hid b2
  have B3 := Lib.hid b3
  have B0 := Lib.hid b0
  have B1 := Lib.hid b1
  have O0 := Lib.hid o0
  have O1 := Lib.hid o1
  have G0 := Lib.hid g0
  have G1 := Lib.hid g1
  go_upto_region 9 with (go_at_call 21; (with_reducible refine (HC1.out _ (HW8.out.trans (HB89.out.mono HW8.out.size))).mono ?_); rintro e w10 ⟨ta, tc, ua, uc, tqs, rfl, ht1, ht2, hb⟩; have HT1 := Lib.hid ht1; have HT2 := Lib.hid ht2; have HB10 := Lib.hid hb; replace b0 := kept_at' b0 hb; replace b1 := kept_at' b1 hb; replace b2 := kept_at' b2 hb; replace b3 := kept_at' b3 hb; replace o0 := kept_at' o0 hb; replace o1 := kept_at' o1 hb; replace g0 := kept_at' g0 hb; replace g1 := kept_at' g1 hb; clear hb ht1 ht2)
  obtain ⟨W11, hW11⟩ : ∃ W11, w10.alloc (.cells #[.slice ta rs.length tc, .slice ua ns.length uc] 36) = W11 := ⟨_, rfl⟩
  obtain ⟨T, hT⟩ : ∃ T, w10.heap.size = T := ⟨_, rfl⟩
  have hb1011 : Below w10.heap.size w10 W11 := by rw [← hW11]; exact one_new _ _
  have hTB : Bl W11 T 36 #[.slice ta rs.length tc, .slice ua ns.length uc] := by rw [← hW11, ← hT]; exact Bl.new _ _ _
  have HB911 := Lib.hid (HB10.out.trans (hb1011.mono HB10.out.size))
  have hst : WantS w9 T rs ns (((ms.drop f).take (i + 1 - f)).map (movN ((ns.length : Int) - f))) (.slice ta rs.length tc) tqs 0 W11 := ⟨_, [], hTB, ownsRow_grown HT1.out hb1011, by simpa using HT2.out.grown hb1011, HB911.out, by rw [← hT]; exact HB10.out.size⟩
  have HST := Lib.hid hst
  have HW9 := Lib.hid (HW8.out.trans (HB89.out.mono HW8.out.size))
  have HX11 : Hid (∀ {W : World}, Below w9.heap.size w9 W → Below w9.heap.size w9 W) := Lib.hid (fun h => h)
  rw [hW11, hT]
  clear hW11 hT hb1011 hTB hst HT1 HT2 HB10 b2 b3
  go_wp2
  go_loopw [14] (fun c wr => ∃ p : Nat, f ≤ p ∧ p ≤ i + 1 ∧ c = .int .i64 (p : Int) ∧ WantS w9 T rs ns (((ms.drop f).take (i + 1 - f)).map (movN ((ns.length : Int) - f))) (.slice ta rs.length tc) tqs (p - f) wr) (fun c _ => i + 1 - (intOf c).toNat)
  case atStart => exact ⟨f, Nat.le_refl _, by omega, rfl, by rw [Nat.sub_self]; exact HST.out⟩
  case round =>
    obtain ⟨p, hp1, hp2, rfl, hS⟩ := hrel
    obtain ⟨u, t, hTB, hTR, hTN, hBw, hT9⟩ := hS
    obtain ⟨M, hM⟩ : ∃ M, ns ++ (((ms.drop f).take (i + 1 - f)).map (movN ((ns.length : Int) - f))).take (p - f) = M := ⟨_, rfl⟩
    have hMl : M.length ≤ 700 := by rw [← hM, List.length_append, List.length_take, List.length_map, List.length_take, List.length_drop]; omega
    rw [hM] at hTN
    have HM := Lib.hid hM
    clear hM
    obtain ⟨ua2, uc2, rfl⟩ := own_slice' hTN.2.1
    obtain ⟨ie, hie, hze0, hze1, hze2⟩ := info_parts infoNode
    have x2 := kept_at' B2.out (by exact (HX11.out hBw))
    have x3 := kept_at' B3.out (by exact (HX11.out hBw))
    by_cases hlt : p ≤ i
    · have k1 : (p : Int) ≤ (i : Int) := by omega
      obtain ⟨n, hn⟩ : ∃ n, ms[p]? = some n := ⟨_, List.getElem?_eq_getElem (by omega)⟩
      obtain ⟨hm1, hm2⟩ := HMK.out n (List.mem_of_getElem? hn)
      have HCX := Lib.hid (HC2.out wr (HW9.out.trans (hBw.mono HW9.out.size)))
      have HTB := Lib.hid hTB
      have HTR := Lib.hid hTR
      have HTN := Lib.hid hTN
      have HBW := Lib.hid hBw
      have HNN := Lib.hid hn
      have HM2 := Lib.hid hm2
      have hbs := hBw.size
      have hpl : p < ms.length := by omega
      have hpm : (p : Int) < (ms.length : Int) := by omega
      have hfd : ∀ (x y : Value) (w : World), (Instr.field 36 (.agg #[x, y]) 1).run Try.prog w = .ok y w := fun _ _ _ => by kernel_rfl
      clear hTB hTR hTN hBw hn hm2
      go_wp2_with (go_at_call 21; (with_reducible refine HCX.out.mono ?_); rintro e w12 ⟨ya, yc, za, zc, yqs, rfl, -, hy2, hb⟩; obtain ⟨yg, rfl, hyg, hycs, hyfz⟩ := own_open' hy2.2.1 (by omega); obtain ⟨q, hqk⟩ : ∃ q, yqs[p]? = some q := ⟨_, List.getElem?_eq_getElem (by rw [hy2.1]; exact hpl)⟩; have hrow := hy2.2.2 p n q HNN.out hqk; obtain ⟨qa, qc, rfl⟩ := own_slice' hrow; have hzip := zip_at HNN.out hqk; have u0 := hycs (p * 7 + 0) _ (nodesC_at (j := 0) hzip (by decide)); have u1 := hycs (p * 7 + 1) _ (nodesC_at (j := 1) hzip (by decide)); have u2 := hycs (p * 7 + 2) _ (nodesC_at (j := 2) hzip (by decide)); have u3 := hycs (p * 7 + 3) _ (nodesC_at (j := 3) hzip (by decide)); have u4 := hycs (p * 7 + 4) _ (nodesC_at (j := 4) hzip (by decide)); have u5 := hycs (p * 7 + 5) _ (nodesC_at (j := 5) hzip (by decide)); have u6 := hycs (p * 7 + 6) _ (nodesC_at (j := 6) hzip (by decide)); rw [Nat.add_zero] at u0; have HROW := Lib.hid hrow; have HB12 := Lib.hid hb; clear hy2 hycs hyfz hqk hrow hzip hb)
      obtain ⟨W13, hW13⟩ : ∃ W13, w12.alloc (.cells #[.int .i64 n.op, .slice qa n.kids.length qc, .int .i64 n.rule, .int .u64 n.s0, .int .u64 n.s1, .int .u64 n.s2, .int .u64 n.s3] 55) = W13 := ⟨_, rfl⟩
      obtain ⟨Y, hY⟩ : ∃ Y, w12.heap.size = Y := ⟨_, rfl⟩
      have hb13 : Below w12.heap.size w12 W13 := by rw [← hW13]; exact one_new _ _
      have hYB : Bl W13 Y 55 #[.int .i64 n.op, .slice qa n.kids.length qc, .int .i64 n.rule, .int .u64 n.s0, .int .u64 n.s1, .int .u64 n.s2, .int .u64 n.s3] := by rw [← hW13, ← hY]; exact Bl.new _ _ _
      have hin : InnerS wr.heap.size Y #[.int .i64 n.op, .slice qa n.kids.length qc, .int .i64 n.rule, .int .u64 n.s0, .int .u64 n.s1, .int .u64 n.s2, .int .u64 n.s3] (.slice qa n.kids.length qc) n.kids ((ns.length : Int) - f) wr 0 W13 := ⟨HB12.out.trans (hb13.mono HB12.out.size), hYB, by have := ownsRow_grown HROW.out hb13; simpa [mixK] using this⟩
      have HIN := Lib.hid hin
      rw [hW13, hY]
      clear hW13 hY hb13 hYB hin u0 u1 u2 u3 u4 u5 u6 x2 x3
      obtain ⟨wo, rfl⟩ : ∃ wo, wo = wr := ⟨_, rfl⟩
      go_wp2
      go_loopw [16] (fun c wq => ∃ m : Nat, m ≤ n.kids.length ∧ c = .int .i64 (m : Int) ∧ InnerS wo.heap.size Y #[.int .i64 n.op, .slice qa n.kids.length qc, .int .i64 n.rule, .int .u64 n.s0, .int .u64 n.s1, .int .u64 n.s2, .int .u64 n.s3] (.slice qa n.kids.length qc) n.kids ((ns.length : Int) - f) wo m wq) (fun c _ => n.kids.length - (intOf c).toNat)
      case atStart => exact ⟨0, Nat.zero_le _, rfl, HIN.out⟩
      case round =>
        obtain ⟨m, hm, rfl, hI⟩ := hrel
        have v1 := hI.2.1.cell (o := 1) (u := .slice qa n.kids.length qc) rfl
        by_cases hml2 : m < n.kids.length
        · obtain ⟨kg, rfl, hkg, hkc, hkf⟩ := own_open' hI.2.2 (by omega)
          obtain ⟨k, hk⟩ : ∃ k, n.kids[m]? = some k := ⟨_, List.getElem?_eq_getElem hml2⟩
          have v2 := hkc m (.int .i64 k) (by unfold intsV; rw [List.getElem?_map, mixK_at hk]; rfl)
          have vf := hkf m
          have hkb := HM2.out k (List.mem_of_getElem? hk)
          have m1 : (m : Int) < (n.kids.length : Int) := by omega
          have HII := Lib.hid (hI.step hk hkg)
          clear hI hkc hkf hk
          go_upto_region 16 with fail
          go_region
          all_goals go_wp2
          all_goals go_roundw
          all_goals (first | (case rel => exact ⟨m + 1, by omega, by go_num, HII.out⟩) | (case measure => simp [intOf]; omega))
        · obtain rfl : m = n.kids.length := by omega
          have m1 : ¬ (n.kids.length : Int) < (n.kids.length : Int) := by omega
          have y0 := hI.2.1.cell (o := 0) (u := .int .i64 n.op) rfl
          have y2 := hI.2.1.cell (o := 2) (u := .int .i64 n.rule) rfl
          have y3 := hI.2.1.cell (o := 3) (u := .int .u64 n.s0) rfl
          have y4 := hI.2.1.cell (o := 4) (u := .int .u64 n.s1) rfl
          have y5 := hI.2.1.cell (o := 5) (u := .int .u64 n.s2) rfl
          have y6 := hI.2.1.cell (o := 6) (u := .int .u64 n.s3) rfl
          have hTq := HTB.out.below hI.1
          have t0 := hTq.cell (o := 0) (u := .slice ta rs.length tc) rfl
          have t1 := hTq.cell (o := 1) (u := .slice ua2 M.length uc2) rfl
          have tf := hTq.free
          have hq : wr.ownsRow wo.heap.size 3 1 (.slice qa n.kids.length qc) (movN ((ns.length : Int) - f) n).kids.length (intsV (movN ((ns.length : Int) - f) n).kids) := by
            have := hI.2.2
            rw [mixK_all] at this
            show wr.ownsRow wo.heap.size 3 1 (.slice qa n.kids.length qc) (n.kids.map (· + ((ns.length : Int) - f))).length (intsV (n.kids.map (· + ((ns.length : Int) - f))))
            rw [List.length_map]; exact this
          have HQ := Lib.hid hq
          have HTQ := Lib.hid hTq
          have HIB := Lib.hid hI.1
          have hbs3 := hI.1.size
          have HN3 := Lib.hid (ownsRow_grown (HTN.out.grown hI.1).2.1 (one_new wr (.cells (nodeC (movN ((ns.length : Int) - f) n, .slice qa n.kids.length qc)).toArray 55)))
          clear hI hq hTq
          go_wp2_with (at_builtin; go_loud (refine wpList_append_own _ rfl _ _ 34 rfl w9.heap.size 55 ie _ 7 72 Try.underlying34 hie hze0 hze1 hze2 rfl (by decide) _ M.length _ rfl HN3.out ⟨_, 0, none⟩ 1 1 (nodeC (movN ((ns.length : Int) - f) n, .slice qa n.kids.length qc)) rfl rfl (cell_row_one wr _ _) (by simp [nodeC, Value.oneCell']) (by unfold maxLen; omega) (by omega) (by simp; omega) ?_); intro v5 w5 hown' hgrow _; obtain ⟨va5, vc5, rfl⟩ := own_slice' hown'; have HO5 := Lib.hid hown'; have HG5 := Lib.hid hgrow; have hT5 := (HTQ.out.below (one_new wr _)).grown hgrow (fun g e => by obtain ⟨c, fz, hc⟩ := Lib.ownsRow_kind HN3.out g e; exact ⟨c, _, fz, hc, by decide⟩); have tf5 := hT5.free; have t51 := hT5.cell (o := 1) (u := .slice ua2 M.length uc2) rfl; clear hown' hgrow hT5)
          go_roundw
          case rel =>
            refine ⟨p + 1, by omega, by omega, by go_num, ?_⟩
            rw [show p + 1 - f = p - f + 1 by omega]
            exact WantS.step (x := movN ((ns.length : Int) - f) n) (by rw [List.getElem?_map, List.getElem?_take_of_lt (by omega), List.getElem?_drop, show f + (p - f) = p by omega, HNN.out]; rfl) HM.out HTB.out HTR.out HTN.out HBW.out hT9 HIB.out hbs HQ.out HO5.out HG5.out
          case measure => simp [intOf]; omega
    · obtain rfl : p = i + 1 := by omega
      have k1 : ¬ ((i + 1 : Nat) : Int) ≤ (i : Int) := by omega
      have hML : M = L := by
        rw [← HM.out, ← HLEQ.out, List.take_of_length_le (by rw [List.length_map, List.length_take]; omega)]
      subst hML
      have q0 := kept_at' G0.out (HX11.out hBw)
      have q1 := kept_at' G1.out (HX11.out hBw)
      have z0 := hTB.cell (o := 0) (u := .slice ta rs.length tc) rfl
      have z1 := hTB.cell (o := 1) (u := .slice ua2 M.length uc2) rfl
      have hb8 := HB89.out.trans (hBw.mono HB89.out.size)
      have hR1 : RulesIn wr (.slice ga rs.length gc) rs := RulesIn.of_own (ownsRow_grown HGR.out hb8) (by unfold maxLen; omega)
      have hN1 : NodesAt wr (.slice ka M.length kc) M := (HGN.out.grown hb8).nodes (by unfold maxLen; omega) (fun n hn => by have := HLK.out n hn; unfold maxLen; omega)
      have hR2 : RulesIn wr (.slice ta rs.length tc) rs := RulesIn.of_own hTR (by unfold maxLen; omega)
      have hN2 : NodesAt wr (.slice ua2 M.length uc2) M := hTN.nodes (by unfold maxLen; omega) (fun n hn => by have := HLK.out n hn; unfold maxLen; omega)
      have hS := rsame_any _ _ _ _ rs rs M M wr hR1 hN1 hR2 hN2
      rw [decide_eq_true ⟨rfl, rfl⟩] at hS
      have HS := Lib.hid hS
      have HB8 := Lib.hid hb8
      have qn : ((M.length : Int) - 1 != (i : Int) + ((ns.length : Int) - f)) = false := by
        have := HLL.out
        have e : (M.length : Int) - 1 = (i : Int) + ((ns.length : Int) - f) := by omega
        rw [e]; simp
      have qn2 : (M.length : Int) - 1 = (i : Int) + ((ns.length : Int) - f) := by have := HLL.out; omega
      have HBW := Lib.hid hBw
      clear hS hR1 hN1 hR2 hN2 hb8 hTB hTR hTN hBw
      go_upto_region 20 with (go_at_call 13; (with_reducible refine HS.out.mono ?_); rintro e w14 ⟨rfl, hb⟩; have HB14 := Lib.hid hb; replace q1 := kept_at' q1 hb; clear hb)
      have hb14 := HB8.out.trans (HB14.out.mono HB8.out.size)
      have hb914 := HBW.out.trans (HB14.out.mono HBW.out.size)
      have hb614 := HB68.out.trans (hb14.mono HB68.out.size)
      have hgn := HGN.out.grown hb14
      have R2 := Lib.hid hgn.2.1
      have R3 := Lib.hid hgn.2.2
      have hgq := hgn.1
      have K5 := Lib.hid q1
      have P0 := Lib.hid (kept_at' O0.out hb914)
      have P1 := Lib.hid (kept_at' O1.out hb914)
      have K0 := Lib.hid (kept_at' B0.out hb914)
      have K1 := Lib.hid (kept_at' B1.out hb914)
      have H614 := Lib.hid hb614
      have hz14 := hb614.size
      clear hb14 hb914 hb614 hgn
      go_wp2
      go_loopw [17] (fun c wr => ∃ k : Nat, k ≤ M.length ∧ c = .int .i64 (k : Int) ∧ Kin6 w14 wr ∧ Below W6.heap.size w14 wr) (fun c _ => M.length - (intOf c).toNat)
      case atStart => exact ⟨0, Nat.zero_le _, rfl, Kin6.refl _, Below.refl _ _⟩
      case round =>
        clear q1
        obtain ⟨k, hk, rfl, hkin, hbel⟩ := hrel
        have k5 := hkin.2.2.1 _ _ _ _ K5.out
        by_cases hlt : k < M.length
        · obtain ⟨n, hn⟩ : ∃ n, M[k]? = some n := ⟨_, List.getElem?_eq_getElem hlt⟩
          obtain ⟨q, hqk⟩ : ∃ q, gqs[k]? = some q := ⟨_, List.getElem?_eq_getElem (by omega)⟩
          have hkl' := HLK.out n (List.mem_of_getElem? hn)
          have hrow := R3.out k n q hn hqk
          obtain ⟨qa, qc, rfl⟩ := own_slice' hrow
          obtain ⟨g, rfl, hg, hcs, hfz⟩ := own_open' R2.out (by omega)
          have hzip := zip_at hn hqk
          have u1 := hcs (k * 7 + 1) _ (nodesC_at (j := 1) hzip (by decide))
          have v1 := hkin.2.2.1 _ _ _ _ u1
          have j1 : (k : Int) < (M.length : Int) := by omega
          have U1 := Lib.hid u1
          have HROW := Lib.hid hrow
          have HKI := Lib.hid hkin
          have HBE := Lib.hid hbel
          clear hn hqk hcs hzip u1 hfz hkin hrow
          go_wp2
          go_loopw [18] (fun c wq => ∃ j : Nat, j ≤ n.kids.length ∧ c = .int .i64 (j : Int) ∧ Kin6 w14 wq ∧ Below W6.heap.size w14 wq) (fun c _ => n.kids.length - (intOf c).toNat)
          case atStart => exact ⟨0, Nat.zero_le _, rfl, HKI.out, HBE.out⟩
          case round =>
            clear k5 v1
            obtain ⟨j, hj, rfl, hkin, hbel2⟩ := hrel
            have k5 := hkin.2.2.1 _ _ _ _ K5.out
            have v1 := hkin.2.2.1 _ _ _ _ U1.out
            by_cases hjl : j < n.kids.length
            · obtain ⟨g2, rfl, hg2, hcs, hfz⟩ := own_open' HROW.out (by omega)
              obtain ⟨z, hz⟩ : ∃ z, n.kids[j]? = some z := ⟨_, List.getElem?_eq_getElem hjl⟩
              have u2 := hcs j (.int .i64 z) (by unfold intsV; rw [List.getElem?_map, hz]; rfl)
              obtain ⟨y2, v2⟩ := hkin.1 _ _ u2
              have vf := hkin.2.2.2 _ (hfz j)
              have j2 : (j : Int) < (n.kids.length : Int) := by omega
              have HKI2 := Lib.hid (fun z => hkin.int v2 z)
              have HBE2 := Lib.hid hbel2
              clear hcs hfz u2 hkin hz hbel2
              go_wp2
              go_roundw
              case rel => exact ⟨j + 1, by omega, by go_num, HKI2.out _, HBE2.out.setCell (p := ⟨g2, j, none⟩) hg2 _⟩
              case measure => simp [intOf]; omega
            · have j2 : ¬ (j : Int) < (n.kids.length : Int) := by omega
              have HKI2 := Lib.hid hkin
              have HBE2 := Lib.hid hbel2
              clear hkin hbel2
              go_wp2
              go_roundw
              case rel => exact ⟨k + 1, by omega, by go_num, HKI2.out, HBE2.out⟩
              case measure => simp [intOf]; omega
        · have j1 : ¬ (k : Int) < (M.length : Int) := by omega
          have a0 := hkin.2.2.1 _ _ _ _ K0.out
          have a1 := hkin.2.2.1 _ _ _ _ K1.out
          have m0 := hkin.2.2.1 _ _ _ _ P0.out
          have m1 := hkin.2.2.1 _ _ _ _ P1.out
          have hb1 := H614.out.trans hbel
          have hb2 := HW6.out.trans (hb1.mono HW6.out.size)
          have hE2 := rsame_any _ _ _ _ rs rs ns ns wr (HOR.out.kept hb1 (Nat.le_refl _)) (HON.out.kept hb1 (Nat.le_refl _)) (HGGR.out.kept hb2 (Nat.le_refl _)) (HGGN.out.kept hb2 (Nat.le_refl _))
          rw [decide_eq_true ⟨rfl, rfl⟩] at hE2
          have HE2 := Lib.hid hE2
          have HB2 := Lib.hid hb2
          clear hE2 hb1 hb2 hkin hbel
          go_wp2_with (go_at_call 13; (with_reducible refine HE2.out.mono ?_); rintro e w16 ⟨rfl, hb⟩; have HBX := Lib.hid (HB2.out.trans (hb.mono HB2.out.size)); clear hb)
          go_ret
          exact ⟨rfl, HBX.out⟩
theorem ord_pos' {ns : List PN} {rs : List PR} (h : ordR ns rs (-1) = true) (h0 : 0 < rs.length) : 0 < ns.length := by
  cases rs with
  | nil => cases h0
  | cons r t => have := ordR_cons h; omega
theorem appends_any (hA : BuildAwake) (rv nv rv2 nv2 : Value) (rs ts : List PR) (ns ms : List PN) (a : Nat) (w : World) (ha : a ≤ 65535) (hR : RulesIn w rv rs) (hN : NodesAt w nv ns) (hR2 : RulesIn w rv2 ts) (hN2 : NodesAt w nv2 ms) (hcap : ∀ a n cap, nv2 = .slice a n cap → n ≤ cap) :
    Calls Try.prog 6 #[.agg #[rv, nv], .agg #[rv2, nv2], .int .u16 (a : Int)] w fun e w' => e = .returned (.bool true) ∧ Below w.heap.size w w' := by
  have hf : Thn' 20 #[.agg #[rv, nv]] w (fun W e w' => e = .returned (.bool (fewB rs ns)) ∧ Below W.heap.size W w') := fun W hb => few_any rv nv rs ns W (hR.kept hb (Nat.le_refl _)) (hN.kept hb (Nat.le_refl _))
  have hf2 : Thn' 14 #[.agg #[rv2, nv2]] w (fun W e w' => e = .returned (.bool (fewB ts ms && okB (chkL ts ms))) ∧ Below W.heap.size W w') := fun W hb => rsmall_any rv2 nv2 ts ms W (hR2.kept hb (Nat.le_refl _)) (hN2.kept hb (Nat.le_refl _))
  have hR' := hR
  have hN' := hN
  have hR2' := hR2
  have hN2' := hN2
  obtain ⟨-, ra, rc, rfl, -⟩ := hR'
  obtain ⟨-, na, nc, rfl, -⟩ := hN'
  obtain ⟨-, rb, rc2, rfl, -⟩ := hR2'
  obtain ⟨-, nb, nc2, rfl, -⟩ := hN2'
  have hc2 := hcap _ _ _ rfl
  cases h1 : fewB rs ns with
  | false => rw [h1] at hf; exact appends_few1 hA _ _ _ _ _ _ _ _ _ _ _ _ _ w hf
  | true =>
    rw [h1] at hf
    obtain ⟨hnm, hkl, hrl, hnl⟩ := fewB_yes h1
    cases h2 : (fewB ts ms && okB (chkL ts ms)) with
    | false => rw [h2] at hf2; exact appends_few2 hA _ _ _ _ _ _ _ _ _ _ _ _ _ w hf hf2
    | true =>
      rw [h2] at hf2
      rw [Bool.and_eq_true] at h2
      obtain ⟨hnm2, hkl2, hrl2, hnl2⟩ := fewB_yes h2.1
      obtain ⟨-, -, hr0, -, -, hord, -⟩ := chkL_ok (okB_is h2.2)
      have hm0 := ord_pos' hord hr0
      have hex := ordR_ex hord
      have hkb := hex.kids
      obtain ⟨i, hi⟩ : ∃ i : Nat, (a : Int) % (ms.length : Int) = (i : Int) := ⟨((a : Int) % (ms.length : Int)).toNat, by have := Int.emod_nonneg (a : Int) (b := (ms.length : Int)) (by omega); omega⟩
      have hil : i < ms.length := by have := Int.emod_lt_of_pos (a : Int) (b := (ms.length : Int)) (by omega); omega
      have hxi := hex (i : Int) (by omega) (by omega)
      have hli := exL_lt ms i hxi
      obtain ⟨f, hf'⟩ : ∃ f : Nat, fstL ms (i : Int) = (f : Int) := ⟨(fstL ms (i : Int)).toNat, by unfold fstL; omega⟩
      have hfe : exL ms (i : Int) = (f : Int) - 1 := by unfold fstL at hf'; omega
      have hfi : f ≤ i := by omega
      have hmk : ∀ n, n ∈ ms → n.kids.length ≤ 60 ∧ ∀ k, k ∈ n.kids → 0 ≤ k ∧ k ≤ 1000 := fun n hn => by
        obtain ⟨p, hp⟩ := List.getElem?_of_mem hn
        have hpl := (List.getElem?_eq_some_iff.1 hp).1
        exact ⟨hkl2 n hn, fun k hk => by have := hkb p n hp k hk; omega⟩
      have hsl : (((ms.drop f).take (i + 1 - f)).map (movN ((ns.length : Int) - f))).length = i + 1 - f := by rw [List.length_map, List.length_take, List.length_drop]; omega
      refine appends_good hA _ _ _ _ _ _ _ _ a i f rs ts ns ms (ns ++ ((ms.drop f).take (i + 1 - f)).map (movN ((ns.length : Int) - f))) w hf hf2 ?_ ?_ ?_ ?_ hmk hi hil hfi ha hnl hnl2 hrl hkl (by rw [List.length_append, hsl]) rfl ?_ hR hN
      · exact fun W hb => (rcopy_any _ _ rs ns W (hR.kept hb (Nat.le_refl _)) (hN.kept hb (Nat.le_refl _)) (by omega) (by omega) (fun n h => by have := hkl n h; omega)).mono fun e w' hh => rows_of hh
      · exact fun W hb => by
          have := expr_any rb nb ts.length rc2 ms.length nc2 ms (by omega) (i : Int) (by omega) W (hN2.kept hb (Nat.le_refl _))
          rw [hfe] at this; exact this
      · exact fun oa pa oc pc W hb h3 h4 => (append_any _ _ nb ts.length rc2 nc2 rb rs ns ms i f W h3 h4 (by omega) (by omega) (fun r h => by have := hnm r h; omega) (fun n h => by have := hkl n h; omega) (hN2.kept hb (Nat.le_refl _)) hc2 (by omega) (fun n h => by obtain ⟨x1, x2⟩ := hmk n h; exact ⟨by omega, fun k hk => by have := x2 k hk; omega⟩) hil hxi hf' hfi).mono fun e w' hh => approws_of hh
      · exact fun W hb => (rcopy_any _ _ ts ms W (hR2.kept hb (Nat.le_refl _)) (hN2.kept hb (Nat.le_refl _)) (by omega) (by omega) (fun n h => by have := hkl2 n h; omega)).mono fun e w' hh => rows_of hh
      · intro n hn
        rcases List.mem_append.1 hn with h | h
        · exact hkl n h
        · obtain ⟨x, hx, rfl⟩ := List.mem_map.1 h
          show (x.kids.map _).length ≤ 60
          rw [List.length_map]
          exact hkl2 x (List.mem_of_mem_drop (List.mem_of_mem_take hx))
end Go.Proofs.Ytnebdnonkefloaa
