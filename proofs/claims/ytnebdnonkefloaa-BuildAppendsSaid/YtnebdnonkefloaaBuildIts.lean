/- The program's itemsOf. -/
import Derived.Test.YtnebdnonkefloaaBuildRows
import Derived.Laws.EntriesVeiled
import Derived.Deep.LoopGhost
import Derived.Deep.RegionWith
namespace Go.Proofs.Ytnebdnonkefloaa
section
open Go.RowKit
def boolsA (n : Nat) (tk : Nat → Bool) : Array Value := ((List.range n).map fun j => Value.bool (tk j)).toArray
theorem boolsA_at {n j : Nat} (tk : Nat → Bool) (h : j < n) : (boolsA n tk)[j]? = some (.bool (tk j)) := by
  unfold boolsA
  rw [List.getElem?_toArray, List.getElem?_map, List.getElem?_range h]; rfl
theorem boolsA_set {n i : Nat} (tk : Nat → Bool) : (boolsA n tk).setIfInBounds i (.bool true) = boolsA n (fun j => tk j || decide (j = i)) := by
  unfold boolsA
  rw [List.setIfInBounds_toArray]
  congr 1
  refine List.ext_getElem? fun j => ?_
  rw [List.getElem?_set]
  by_cases hj : i = j
  · subst hj
    rw [if_pos rfl]
    by_cases h : i < n
    · rw [if_pos (by simpa using h), List.getElem?_map, List.getElem?_range h]; simp
    · rw [if_neg (by simpa using h), List.getElem?_eq_none (by simp; omega)]
  · rw [if_neg hj]
    rw [List.getElem?_map, List.getElem?_map]
    by_cases h : j < n
    · rw [List.getElem?_range h]
      simp [show decide (j = i) = false from decide_eq_false (fun e => hj e.symm)]
    · rw [List.getElem?_eq_none (by simp; omega)]; rfl
def tkA (tk : Nat → Bool) (lo hi : Int) : Nat → Bool := fun j => tk j || (decide (lo < (j : Int)) && decide ((j : Int) ≤ hi))
def tkP (tk : Nat → Bool) (i : Nat) (lo hi : Int) : Nat → Bool := fun j => (tk j || decide (j = i)) || (decide (lo < (j : Int)) && decide ((j : Int) ≤ hi))
theorem tkP_start (tk : Nat → Bool) (i : Nat) (lo : Int) : tkP tk i lo lo = fun j => tk j || decide (j = i) := by
  funext j
  unfold tkP
  by_cases h : lo < (j : Int)
  · rw [decide_eq_false (show ¬ (j : Int) ≤ lo by omega)]; simp
  · rw [decide_eq_false h]; simp
theorem tkP_step (tk : Nat → Bool) (i : Nat) {lo mid hi : Int} (h1 : lo ≤ mid) (h2 : mid ≤ hi) : tkA (tkP tk i lo mid) mid hi = tkP tk i lo hi := by
  funext j
  unfold tkA tkP
  by_cases a : lo < (j : Int) <;> by_cases b : (j : Int) ≤ mid <;> by_cases c : (j : Int) ≤ hi <;> by_cases d : mid < (j : Int) <;> simp [a, b, c, d] <;> omega
theorem tkP_end (tk : Nat → Bool) (i : Nat) {lo : Int} (h1 : lo < (i : Int)) : tkP tk i lo ((i : Int) - 1) = tkA tk lo (i : Int) := by
  funext j
  unfold tkA tkP
  by_cases a : lo < (j : Int) <;> by_cases b : (j : Int) ≤ (i : Int) - 1 <;> by_cases c : (j : Int) ≤ (i : Int) <;> by_cases d : j = i <;> simp [a, b, c, d] <;> omega
theorem upto_ge {ns : List PN} {i : Nat} {n : PN} (hn : ns[i]? = some n) (he : exL ns i ≠ -2) : ∀ p, p ≤ n.kids.length → exL ns i ≤ upto (exL ns i) n.kids p
  | 0, _ => Int.le_refl _
  | p + 1, h => by
    obtain ⟨k, hk⟩ : ∃ k, n.kids[p]? = some k := ⟨_, List.getElem?_eq_getElem (by omega)⟩
    obtain ⟨h1, h2, h3, h4, h5⟩ := kid_span hn he hk
    have := upto_ge hn he p (by omega)
    rw [upto_succ hk]; omega
def itF' (NSB TKB OB TB : Nat) : Value := .func (.func 50) #[] #[.pointer (some ⟨NSB, 0, none⟩), .pointer (some ⟨TKB, 0, none⟩), .pointer (some ⟨OB, 0, none⟩), .pointer (some ⟨TB, 0, none⟩)]
/-- The state of the taking: the nodes, what was taken, the items so far in a row of the call's own. -/
def ItS (w0 : World) (b0 NSB TKB OB TB T : Nat) (nv : Value) (n cap : Nat) (tk : Nat → Bool) (out : List PI) (w : World) : Prop :=
  Below w0.heap.size w0 w ∧ (w0.heap.size ≤ b0 ∧ b0 ≤ w.heap.size ∧ w0.heap.size ≤ T ∧ b0 ≤ OB) ∧ Bl w NSB 34 #[nv] ∧ Bl w TKB 76 #[.slice (some ⟨T, 0, none⟩) n cap] ∧ Bl w TB 91 #[itF' NSB TKB OB TB] ∧ Bl w T 4 (boolsA n tk) ∧
  ∃ ov, Bl w OB 60 #[ov] ∧ w.ownsRow b0 64 7 ov out.length (itemsC out)
section
variable {w0 : World} {b0 NSB TKB OB TB T : Nat} {nv : Value} {n cap : Nat} {tk : Nat → Bool} {out : List PI} {w w' : World}
theorem ItS.alloc (h : ItS w0 b0 NSB TKB OB TB T nv n cap tk out w) (hb : Below w.heap.size w w') : ItS w0 b0 NSB TKB OB TB T nv n cap tk out w' := by
  obtain ⟨h1, h2, h3, h4, h5, h6, ov, h7, h8⟩ := h
  exact ⟨h1.trans (hb.mono h1.size), ⟨h2.1, Nat.le_trans h2.2.1 hb.size, h2.2.2⟩, h3.below hb, h4.below hb, h5.below hb, h6.below hb, ov, h7.below hb, ownsRow_grown h8 hb⟩
theorem ItS.take (h : ItS w0 b0 NSB TKB OB TB T nv n cap tk out w) (i : Nat) : ItS w0 b0 NSB TKB OB TB T nv n cap (fun j => tk j || decide (j = i)) out (w.setCell ⟨T, i, none⟩ (.bool true)) := by
  obtain ⟨h1, h2, h3, h4, h5, h6, ov, h7, h8⟩ := h
  have hs : (w.setCell ⟨T, i, none⟩ (.bool true)).heap.size = w.heap.size := by simp [World.setCell]
  refine ⟨h1.setCell (p := ⟨T, i, none⟩) h2.2.2.1 _, ⟨h2.1, by rw [hs]; exact h2.2.1, h2.2.2⟩, h3.other (h3.ne h6 (by decide)) _, h4.other (h4.ne h6 (by decide)) _, h5.other (h5.ne h6 (by decide)) _, ?_, ov, h7.other (h7.ne h6 (by decide)) _, ?_⟩
  · rw [← boolsA_set]; exact h6.set' _
  · exact ownsRow_setCell_other h8 (a := ⟨T, i, none⟩) (own_ne h8 h6 (by decide)) _
/-- An item is appended. -/
theorem ItS.item (h : ItS w0 b0 NSB TKB OB TB T nv n cap tk out w) {ov ov' : Value} {x : PI} (ho : Bl w OB 60 #[ov]) (hr : w.ownsRow b0 64 7 ov out.length (itemsC out))
    (hown : w'.ownsRow b0 64 7 ov' (out.length + 1) (itemsC out ++ itemC x)) (hg : w.grownBy w' ov.ownBlock) : ItS w0 b0 NSB TKB OB TB T nv n cap tk (out ++ [x]) (w'.setCell ⟨OB, 0, none⟩ ov') := by
  obtain ⟨h1, h2, h3, h4, h5, h6, -⟩ := h
  have kind : ∀ g, ov.ownBlock = some g → ∃ c fz, w.heap[g]? = some (.cells c 64 fz) := fun g hv => Lib.ownsRow_kind hr g hv
  have kb : ∀ {b : Nat} {t : TypeId} {cs : Array Value}, Bl w b t cs → t ≠ 64 → Bl w' b t cs := fun hB ht => hB.grown hg (fun g e => by
    obtain ⟨c, fz, hc⟩ := kind g e
    exact ⟨c, _, fz, hc, ht⟩)
  have k3 := kb h3 (by decide)
  have k4 := kb h4 (by decide)
  have k5 := kb h5 (by decide)
  have k6 := kb h6 (by decide)
  have k7 := kb ho (by decide)
  have hs : (w'.setCell ⟨OB, 0, none⟩ ov').heap.size = w'.heap.size := by simp [World.setCell]
  refine ⟨(h1.grown hg h1.size (fun g e => Nat.le_trans h2.1 (hr.lt g e).1)).setCell (p := ⟨OB, 0, none⟩) (Nat.le_trans h2.1 h2.2.2.2) _, ⟨h2.1, by rw [hs]; exact Nat.le_trans h2.2.1 hg.size, h2.2.2⟩, k3.other (k3.ne k7 (by decide)) _, k4.other (k4.ne k7 (by decide)) _, k5.other (k5.ne k7 (by decide)) _, k6.other (k6.ne k7 (by decide)) _, ov', k7.set _, ?_⟩
  have := ownsRow_setCell_other hown (a := ⟨OB, 0, none⟩) (own_ne hown k7 (by decide)) ov'
  rw [itemsC_append, List.length_append]
  simpa [itemsC] using this
end
def ItIs (w0 : World) (b0 NSB TKB OB TB T : Nat) (nv : Value) (n cap : Nat) (tk : Nat → Bool) (out : List PI) (w : World) (e : Ending) (w' : World) : Prop :=
  e = .returned (.tuple #[]) ∧ ItS w0 b0 NSB TKB OB TB T nv n cap tk out w' ∧ Kp b0 T OB 64 w w'
end
section
open Go.RowKit
/-- The state of its loop over the kids. -/
def ItL (w0 : World) (b0 NSB TKB OB TB T : Nat) (nv : Value) (ns : List PN) (cap : Nat) (tk : Nat → Bool) (out : List PI) (w : World) (i : Nat) (x : PN) (p : Nat) (wr : World) : Prop :=
  ItS w0 b0 NSB TKB OB TB T nv ns.length cap (tkP tk i (exL ns i) (upto (exL ns i) x.kids p)) (out ++ (x.item :: (x.kids.take p).flatMap (itL ns))) wr ∧ Kp b0 T OB 64 w wr
theorem ItL.step {w0 w wr w2 : World} {b0 NSB TKB OB TB T cap i p : Nat} {nv : Value} {ns : List PN} {tk : Nat → Bool} {out : List PI} {x : PN} {k : Int} (hn : ns[i]? = some x) (he : exL ns i ≠ -2) (hk : x.kids[p]? = some k)
    (hS : ItS w0 b0 NSB TKB OB TB T nv ns.length cap (tkA (tkP tk i (exL ns i) (upto (exL ns i) x.kids p)) (exL ns k) k) (out ++ (x.item :: (x.kids.take p).flatMap (itL ns)) ++ itL ns k) w2) (hK : Kp b0 T OB 64 w wr) (hK2 : Kp b0 T OB 64 wr w2) :
    ItL w0 b0 NSB TKB OB TB T nv ns cap tk out w i x (p + 1) w2 := by
  obtain ⟨h1, h2, h3, h4, h5⟩ := kid_span hn he hk
  have hp := (List.getElem?_eq_some_iff.1 hk).1
  have hu := upto_ge hn he p (by omega)
  refine ⟨?_, hK.trans hK2⟩
  rw [h1, tkP_step tk i hu (by omega)] at hS
  rw [upto_succ hk, take_snoc' x.kids p k hk, List.flatMap_append]
  simpa using hS
theorem ItL.done {w0 w wr : World} {b0 NSB TKB OB TB T cap i : Nat} {nv : Value} {ns : List PN} {tk : Nat → Bool} {out : List PI} {x : PN} (hA : AllEx ns) (hn : ns[i]? = some x) (h : ItL w0 b0 NSB TKB OB TB T nv ns cap tk out w i x x.kids.length wr) :
    ItIs w0 b0 NSB TKB OB TB T nv ns.length cap (tkA tk (exL ns i) i) (out ++ itL ns i) w (.returned (.tuple #[])) wr := by
  have hil := (List.getElem?_eq_some_iff.1 hn).1
  have he := hA i (by omega) (by omega)
  have hl := exL_lt ns i he
  obtain ⟨h1, h2⟩ := h
  refine ⟨rfl, ?_, h2⟩
  rw [upto_end hn he, tkP_end tk i (by omega), List.take_length] at h1
  rw [itL_eq hA.kids hn]
  exact h1
theorem flat_len {ns : List PN} {i : Nat} {x : PN} (hA : AllEx ns) (hn : ns[i]? = some x) (he : exL ns i ≠ -2) : ∀ p, p ≤ x.kids.length → ((((x.kids.take p).flatMap (itL ns)).length : Nat) : Int) = upto (exL ns i) x.kids p - exL ns i
  | 0, _ => by rw [List.take_zero, upto_zero]; simp
  | p + 1, h => by
    obtain ⟨k, hk⟩ : ∃ k, x.kids[p]? = some k := ⟨_, List.getElem?_eq_getElem (by omega)⟩
    obtain ⟨h1, h2, h3, h4, h5⟩ := kid_span hn he hk
    have hil := (List.getElem?_eq_some_iff.1 hn).1
    have ih := flat_len hA hn he p (by omega)
    have hl := itL_length hA h4 (i := k) (by omega)
    rw [take_snoc' x.kids p k hk, List.flatMap_append, List.length_append, upto_succ hk]
    simp only [List.flatMap_cons, List.flatMap_nil, List.append_nil]
    omega
set_option maxHeartbeats 8000000 in
set_option maxRecDepth 100000 in
theorem its_any (w0 : World) (b0 NSB TKB OB TB T : Nat) (nv : Value) (ns : List PN) (cap : Nat) (hA : AllEx ns) (hN : NodesAt w0 nv ns) (hns : ns.length ≤ 1000000) : ∀ (f i : Nat) (tk : Nat → Bool) (out : List PI) (w : World), i < f → i < ns.length → (out.length : Int) + ((i : Int) - exL ns i) ≤ 1000000 →
    (∀ j : Nat, exL ns i < (j : Int) → j ≤ i → tk j = false) → ItS w0 b0 NSB TKB OB TB T nv ns.length cap tk out w →
    Calls Try.prog 50 #[.int .i64 (i : Int), .pointer (some ⟨NSB, 0, none⟩), .pointer (some ⟨TKB, 0, none⟩), .pointer (some ⟨OB, 0, none⟩), .pointer (some ⟨TB, 0, none⟩)] w (ItIs w0 b0 NSB TKB OB TB T nv ns.length cap (tkA tk (exL ns i) i) (out ++ itL ns i) w)
  | 0, _, _, _, _, h, _, _, _, _ => absurd h (Nat.not_lt_zero _)
  | f + 1, i, tk, out, w, hf, hi, hbd, htk, hS => by
    have IH := Lib.hid (its_any w0 b0 NSB TKB OB TB T nv ns cap hA hN hns f)
    obtain ⟨x, hx⟩ : ∃ x, ns[i]? = some x := ⟨_, List.getElem?_eq_getElem hi⟩
    have he := hA i (by omega) (by omega)
    have hlt := exL_lt ns i he
    obtain ⟨h1, h2, h3, h4, h5, h6, ov, h7, h8⟩ := hS
    obtain ⟨oa, oc, rfl⟩ := own_slice' h8
    have hN' := hN.kept h1 (Nat.le_refl _)
    obtain ⟨-, na, nc, rfl, hna⟩ := hN'
    rcases hna with h0 | ⟨nb, no, rfl, hca⟩
    · rw [h0] at hi; exact absurd hi (Nat.not_lt_zero _)
    obtain ⟨kv, c0, c1, c2, c3, c4, c5, c6, ci, cl⟩ := hca i x hx
    have hnbT : nb ≠ T := by
      obtain ⟨-, na', nc', he', hna'⟩ := hN
      injection he' with he1 he2 he3
      rcases hna' with h0 | ⟨nb', no', hab, hca'⟩
      · rw [h0] at hi; exact absurd hi (Nat.not_lt_zero _)
      · rw [hab] at he1
        injection he1 with he1
        injection he1 with he1 _
        obtain ⟨_, d0, -⟩ := hca' i x hx
        have := lt_of_cell d0
        have := h2.2.2.1
        omega
    have hnsT : NSB ≠ T := h3.ne h6 (by decide)
    have htkT : TKB ≠ T := h4.ne h6 (by decide)
    have hk0 : ∃ kv0, w0.cell? ⟨nb, no + i * 7 + 1, none⟩ = some kv0 ∧ IntsAt w0 kv0 x.kids := by
      obtain ⟨-, na', nc', he', hna'⟩ := hN
      injection he' with he1 he2 he3
      rcases hna' with h0 | ⟨nb', no', hab, hca'⟩
      · rw [h0] at hi; exact absurd hi (Nat.not_lt_zero _)
      · rw [hab] at he1
        injection he1 with he1
        injection he1 with he1 he2
        subst he1 he2
        obtain ⟨kv0, -, d1, -, -, -, -, -, di, -⟩ := hca' i x hx
        exact ⟨kv0, d1, di⟩
    obtain ⟨kv0, d1, di⟩ := hk0
    have hkv : kv = kv0 := by
      have := (bcell h1).1 nb (no + i * 7 + 1) (lt_of_cell d1)
      rw [c1, d1] at this
      exact Option.some.inj this
    subst hkv
    have CI0 := Lib.hid di
    obtain ⟨ka, kc, rfl, -⟩ := ci
    clear d1 di
    have n0 := h3.cell (o := 0) rfl
    have t0 := h4.cell (o := 0) rfl
    have tki := h6.cell (boolsA_at tk hi)
    rw [htk i hlt.2.1 (Nat.le_refl _)] at tki
    have tf := h6.free i
    have nl := h3.lt
    have tl := h4.lt
    have Tl := h6.lt
    have bl := lt_of_cell c0
    have k1 : (i : Int) < (ns.length : Int) := by omega
    have hib : (i : Int) ≤ 1000000 := by omega
    have k4 : decide ((i : Int) < 0) = false := decide_eq_false (by omega)
    have k5 : decide (ns.length ≤ i) = false := decide_eq_false (by omega)
    have o0 := h7.cell (o := 0) rfl
    have ol := h7.lt
    have hob : OB ≠ T := h7.ne h6 (by decide)
    have HS := Lib.hid (show ItS w0 b0 NSB TKB OB TB T (.slice (some ⟨nb, no, none⟩) ns.length nc) ns.length cap tk out w from ⟨h1, h2, h3, h4, h5, h6, _, h7, h8⟩)
    clear h1 h2 h3 h4 h5 h6 h7 h8 hca
    go_enter Try.func50, Try.ntmps50
    go_upto_region 3 with fail
    obtain ⟨W1, hW1⟩ : ∃ W1, (w.setCell ⟨T, i, none⟩ (.bool true)).alloc (.cells #[.int .i64 x.op, .slice ka x.kids.length kc, .int .i64 x.rule, .int .u64 x.s0, .int .u64 x.s1, .int .u64 x.s2, .int .u64 x.s3] 55) = W1 := ⟨_, rfl⟩
    have hS1 : ItS w0 b0 NSB TKB OB TB T (.slice (some ⟨nb, no, none⟩) ns.length nc) ns.length cap (fun j => tk j || decide (j = i)) out W1 := by
      rw [← hW1]; exact (HS.out.take i).alloc (one_new _ _)
    have hK1 : Kp b0 T OB 64 w W1 := by
      rw [← hW1]; exact (Kp.set HS.out.2.2.2.2.2.1 (.inl rfl) _).trans (Kp.of_below (one_new _ _))
    have hB1 : Bl W1 w.heap.size 55 #[.int .i64 x.op, .slice ka x.kids.length kc, .int .i64 x.rule, .int .u64 x.s0, .int .u64 x.s1, .int .u64 x.s2, .int .u64 x.s3] := by
      rw [← hW1]
      have := Bl.new (w.setCell ⟨T, i, none⟩ (.bool true)) 55 #[.int .i64 x.op, .slice ka x.kids.length kc, .int .i64 x.rule, .int .u64 x.s0, .int .u64 x.s1, .int .u64 x.s2, .int .u64 x.s3]
      simpa using this
    rw [hW1]
    clear hW1 c0 c1 c2 c3 c4 c5 c6 n0 t0 tki tf o0 hnsT htkT
    have hS1' := hS1
    obtain ⟨-, g2, -, -, -, -, ov1, g7, g8⟩ := hS1'
    obtain ⟨oa1, oc1, rfl⟩ := own_slice' g8
    have y0 : W1.cell? ⟨w.heap.size, 0, none⟩ = some (.int .i64 x.op) := hB1.cell rfl
    have y1 : W1.cell? ⟨w.heap.size, 1, none⟩ = some (.slice ka x.kids.length kc) := hB1.cell rfl
    have y2 : W1.cell? ⟨w.heap.size, 2, none⟩ = some (.int .i64 x.rule) := hB1.cell rfl
    have y3 : W1.cell? ⟨w.heap.size, 3, none⟩ = some (.int .u64 x.s0) := hB1.cell rfl
    have y4 : W1.cell? ⟨w.heap.size, 4, none⟩ = some (.int .u64 x.s1) := hB1.cell rfl
    have y5 : W1.cell? ⟨w.heap.size, 5, none⟩ = some (.int .u64 x.s2) := hB1.cell rfl
    have y6 : W1.cell? ⟨w.heap.size, 6, none⟩ = some (.int .u64 x.s3) := hB1.cell rfl
    have o1 : W1.cell? ⟨OB, 0, none⟩ = some (.slice oa1 out.length oc1) := g7.cell rfl
    have ol1 := g7.lt
    have yl := hB1.lt
    have g22 := g2.2.1
    have hoN : OB ≠ w.heap.size := g7.ne hB1 (by decide)
    have hexl := hlt.2.1
    have hex0 := hlt.1
    have HS1 := Lib.hid hS1
    have HB1 := Lib.hid hB1
    have HK1 := Lib.hid hK1
    have H7 := Lib.hid g7
    have H8 := Lib.hid g8
    obtain ⟨ii, hii, hz0, hz1, hz2⟩ := info_parts infoBItem
    have hout : out.length ≤ 1000000 := by omega
    clear g2 g7 g8 hB1 hK1 hS1
    go_upto_region 4 with (at_builtin; refine wpList_append_own _ rfl _ _ 60 rfl b0 64 ii _ 7 56 Try.underlying60 hii hz0 hz1 hz2 rfl (by decide) _ out.length _ rfl (ownsRow_grown H8.out (one_new W1 _)) ⟨W1.heap.size, 0, none⟩ 1 1 (itemC x.item) rfl rfl (cell_row_one W1 _ _) (by simp [itemC, Value.oneCell']) (by unfold maxLen; omega) (by omega) (by simp; omega) ?_; intro v5 w5 hown' hgrow _; obtain ⟨va5, vc5, rfl⟩ := own_slice' hown'; have kind5 : ∀ g, (Value.slice oa1 out.length oc1).ownBlock = some g → ∃ c fz, (W1.alloc (.cells (itemC x.item).toArray 64)).heap[g]? = some (.cells c 64 fz) := fun g hv => Lib.ownsRow_kind (ownsRow_grown H8.out (one_new W1 _)) g hv; have ho5 := (H7.out.below (one_new W1 _)).grown hgrow (fun g e => by obtain ⟨c, fz, hc⟩ := kind5 g e; exact ⟨c, _, fz, hc, by decide⟩); have hn5 := (HB1.out.below (one_new W1 _)).grown hgrow (fun g e => by obtain ⟨c, fz, hc⟩ := kind5 g e; exact ⟨c, _, fz, hc, by decide⟩); have q0 := ho5.cell (o := 0) rfl; have qf := ho5.free 0; have q1 := hn5.cell (o := 1) rfl; have HO := Lib.hid hown'; have HG := Lib.hid hgrow; have HN5 := Lib.hid hn5; have HO5 := Lib.hid ho5; clear hown' hgrow ho5 hn5 kind5)
    obtain ⟨W6, hW6⟩ : ∃ W6, w5.setCell ⟨OB, 0, none⟩ (.slice va5 (out.length + 1) vc5) = W6 := ⟨_, rfl⟩
    have hS6 : ItS w0 b0 NSB TKB OB TB T (.slice (some ⟨nb, no, none⟩) ns.length nc) ns.length cap (fun j => tk j || decide (j = i)) (out ++ [x.item]) W6 := by
      rw [← hW6]; exact (HS1.out.alloc (one_new W1 _)).item (H7.out.below (one_new W1 _)) (ownsRow_grown H8.out (one_new W1 _)) HO.out HG.out
    have hK6 : Kp b0 T OB 64 w W6 := by
      rw [← hW6]
      exact ((HK1.out.trans (Kp.of_below (one_new W1 _))).trans (Kp.grown HG.out (fun g e => ⟨(H8.out.lt g e).1, by obtain ⟨c, fz, hc⟩ := Lib.ownsRow_kind (ownsRow_grown H8.out (one_new W1 _)) g e; exact ⟨c, fz, hc⟩⟩))).trans (Kp.set HO5.out (.inr (.inl rfl)) _)
    have m1 : W6.cell? ⟨w.heap.size, 1, none⟩ = some (.slice ka x.kids.length kc) := by rw [← hW6]; exact (HN5.out.other (fun e => hoN e.symm) _).cell rfl
    rw [hW6]
    have HS6 := Lib.hid hS6
    have HK6 := Lib.hid hK6
    clear hS6 hK6 hW6 q0 qf q1 y0 y1 y2 y3 y4 y5 y6 o1 HS1 HB1 HK1 H7 H8 HO HG HN5 HO5 HS
    unfold maxLen at cl
    go_wp2
    go_loopw [46] (fun c wr => ∃ p : Nat, p ≤ x.kids.length ∧ c = .int .i64 p ∧ ItL w0 b0 NSB TKB OB TB T (.slice (some ⟨nb, no, none⟩) ns.length nc) ns cap tk out w i x p wr) (fun c _ => x.kids.length - (intOf c).toNat)
    case atStart =>
      refine ⟨0, Nat.zero_le _, rfl, ?_, HK6.out⟩
      have := HS6.out
      rw [upto_zero, tkP_start]
      simpa using this
    case round =>
      clear HS6 HK6
      obtain ⟨p, hp, rfl, hL⟩ := hrel
      by_cases hpl : p < x.kids.length
      · obtain ⟨k, hk⟩ : ∃ k, x.kids[p]? = some k := ⟨_, List.getElem?_eq_getElem hpl⟩
        obtain ⟨s1, s2, s3, s4, s5⟩ := kid_span hx he hk
        obtain ⟨m, rfl⟩ : ∃ m : Nat, k = m := ⟨k.toNat, by omega⟩
        have hu := upto_ge hx he p hp
        have hfl := flat_len hA hx he p hp
        obtain ⟨hLS, hLK⟩ := hL
        have hC := Lib.hid (IH.out m _ _ wr (by omega) (by omega) (by rw [List.length_append, List.length_cons]; omega) (fun j j1 j2 => by
          unfold tkP
          rw [htk j (by omega) (by omega), decide_eq_false (show ¬ j = i by omega), decide_eq_false (show ¬ (j : Int) ≤ upto (exL ns i) x.kids p by omega)]; simp) hLS)
        unfold ItIs at hC
        have hb0 : Below w0.heap.size w0 wr := hLS.1
        have tb := hLS.2.2.2.2.1.cell (o := 0) rfl
        unfold itF' at tb
        obtain ⟨kb, ko, rfl, ck⟩ := (CI0.out.kept hb0 (Nat.le_refl _)).at' hk
        have p1 : (p : Int) < (x.kids.length : Int) := by omega
        have HKp := Lib.hid hk
        have HLK := Lib.hid hLK
        clear hLS hLK hk hb0 s1 s2 s3 s4 s5 hu hfl
        go_wp2_with (go_at_call 50; (with_reducible refine hC.out.mono ?_); rintro e w2 ⟨rfl, hS2, hK2⟩; have HS2 := Lib.hid hS2; have HK2 := Lib.hid hK2; clear hS2 hK2)
        go_roundw
        case rel => exact ⟨p + 1, by omega, by go_num, ItL.step hx he HKp.out HS2.out HLK.out HK2.out⟩
        case measure => simp [intOf]; omega
      · obtain rfl : p = x.kids.length := by omega
        have p1 : ¬ (x.kids.length : Int) < (x.kids.length : Int) := by omega
        have HD := Lib.hid (ItL.done hA hx hL)
        clear hL
        go_wp2
        go_end0
        exact HD.out
end
section
open Go.RowKit
theorem Kp.fresh2 {base xb yb : Nat} {t1 : TypeId} {w w' : World} (h : Kp base xb yb t1 w w') (hy : w.heap.size ≤ yb) (yc : Nat) : Kp base xb yc t1 w w' :=
  ⟨h.os, h.tape, h.output, h.size, fun k hk hx _ hc => h.block k hk hx (by omega) hc⟩
def ItemsOfIs (w0 : World) (T n : Nat) (tk' : Nat → Bool) (its : List PI) (w : World) (e : Ending) (w' : World) : Prop :=
  ∃ ov, e = .returned ov ∧ w'.ownsRow w.heap.size 64 7 ov its.length (itemsC its) ∧ Bl w' T 4 (boolsA n tk') ∧ Below w0.heap.size w0 w' ∧ ∀ yb, Kp w.heap.size T yb 64 w w'
theorem ItemsOfIs.mk {w0 w w4 w' : World} {NSB TKB OB TB T n cap : Nat} {nv ov : Value} {tk' : Nat → Bool} {its : List PI} (hb : Below w.heap.size w w4) (hy : w.heap.size ≤ OB) (hS : ItS w0 w.heap.size NSB TKB OB TB T nv n cap tk' its w') (hn : Bl w' OB 60 #[ov])
    (hK : Kp w.heap.size T OB 64 w4 w') : ItemsOfIs w0 T n tk' its w (.returned ov) w' := by
  obtain ⟨h1, h2, h3, h4, h5, h6, ov', h7, h8⟩ := hS
  have : ov' = ov := by
    unfold Bl at hn h7
    rw [hn] at h7
    injection h7 with h
    injection h with h _ _
    injection h with h
    injection h with h _
    exact h.symm
  subst this
  exact ⟨ov', rfl, h8, h6, h1, fun yb => ((Kp.of_below hb).trans hK).fresh2 hy yb⟩
set_option maxHeartbeats 4000000 in
set_option maxRecDepth 100000 in
theorem itemsOf_any (w0 : World) (T : Nat) (nv : Value) (ns : List PN) (cap i : Nat) (tk : Nat → Bool) (w : World) (hA : AllEx ns) (hN : NodesAt w0 nv ns) (hns : ns.length ≤ 1000000) (hi : i < ns.length) (htk : ∀ j : Nat, exL ns i < (j : Int) → j ≤ i → tk j = false)
    (hb : Below w0.heap.size w0 w) (hwT : w0.heap.size ≤ T) (hT : Bl w T 4 (boolsA ns.length tk)) :
    Calls Try.prog 36 #[nv, .int .i64 (i : Int), .slice (some ⟨T, 0, none⟩) ns.length cap] w (ItemsOfIs w0 T ns.length (tkA tk (exL ns i) i) (itL ns i) w) := by
  obtain ⟨na, nc, rfl⟩ := hN.slice
  have hmf : ∀ (fn : Fn) (first cap : Array Value) (w : World), (Instr.makeFunc fn first cap).run Try.prog w = .ok (.func fn first cap) w := fun _ _ _ _ => rfl
  obtain ⟨W, hW⟩ : ∃ W, ((((w.alloc (.cells #[.slice na ns.length nc] 34)).alloc (.cells #[.slice (some ⟨T, 0, none⟩) ns.length cap] 76)).alloc (.cells #[.slice none 0 0] 60)).alloc (.cells #[itF' w.heap.size (w.heap.size + 1) (w.heap.size + 1 + 1) (w.heap.size + 1 + 1 + 1)] 91)) = W := ⟨_, rfl⟩
  have hb4 : Below w.heap.size w W := by
    rw [← hW]
    exact ((two_new w _ _).alloc (by simp; omega) _).alloc (by simp; omega) _
  have b0 : Bl W w.heap.size 34 #[.slice na ns.length nc] := by
    rw [← hW]
    repeat (first | (refine Bl.new' ?_; simp; done) | refine Bl.past ?_)
  have b1 : Bl W (w.heap.size + 1) 76 #[.slice (some ⟨T, 0, none⟩) ns.length cap] := by
    rw [← hW]
    repeat (first | (refine Bl.new' ?_; simp; done) | refine Bl.past ?_)
  have b2 : Bl W (w.heap.size + 1 + 1) 60 #[.slice none 0 0] := by
    rw [← hW]
    repeat (first | (refine Bl.new' ?_; simp; done) | refine Bl.past ?_)
  have b3 : Bl W (w.heap.size + 1 + 1 + 1) 91 #[itF' w.heap.size (w.heap.size + 1) (w.heap.size + 1 + 1) (w.heap.size + 1 + 1 + 1)] := by
    rw [← hW]
    repeat (first | (refine Bl.new' ?_; simp; done) | refine Bl.past ?_)
  have hs0 := hb.size
  have hlx := exL_lt ns i (hA i (by omega) (by omega))
  have hSt : ItS w0 w.heap.size w.heap.size (w.heap.size + 1) (w.heap.size + 1 + 1) (w.heap.size + 1 + 1 + 1) T (.slice na ns.length nc) ns.length cap tk [] W :=
    ⟨hb.trans (hb4.mono hs0), ⟨hs0, hb4.size, hwT, by omega⟩, b0, b1, b3, hT.below hb4, _, b2, World.ownsRow_nil _ _ _ _⟩
  have hC := Lib.hid (its_any w0 w.heap.size w.heap.size (w.heap.size + 1) (w.heap.size + 1 + 1) (w.heap.size + 1 + 1 + 1) T (.slice na ns.length nc) ns cap hA hN hns (i + 1) i tk [] W (Nat.lt_succ_self _) hi (by simp; omega) htk hSt)
  unfold ItIs at hC
  rw [List.nil_append] at hC
  have HB4 := Lib.hid hb4
  have c3 := b3.cell (o := 0) rfl
  unfold itF' at c3 hW
  clear hb hT hN hb4 b0 b1 b2 b3 hSt htk
  go_enter Try.func36, Try.ntmps36
  go_wp2_with (go_at_call 50; (with_reducible refine hC.out.mono ?_); rintro e w2 ⟨rfl, hS2, hK2⟩; obtain ⟨-, -, -, -, -, -, ov2, hn2, hr2⟩ := id hS2; obtain ⟨oa2, oc2, rfl⟩ := own_slice' hr2; have g2 := hn2.cell (o := 0) rfl; have HS2 := Lib.hid hS2; have HK2 := Lib.hid hK2; have HN2 := Lib.hid hn2; clear hS2 hK2 hr2 hn2)
  go_ret
  exact ItemsOfIs.mk HB4.out (by omega) HS2.out HN2.out HK2.out
end
end Go.Proofs.Ytnebdnonkefloaa
