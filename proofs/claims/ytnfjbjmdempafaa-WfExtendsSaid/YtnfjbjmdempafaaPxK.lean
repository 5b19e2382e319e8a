/- Rows of cells in memory, items and rules with items in them, blocks, and what a call leaves as it was that writes into its own blocks of two types. measure: the -/
import Derived.Deep.Cut
import Derived.Deep.RegionWith
import Derived.Conc.MuLone
import Derived.Deep.QuietTactic
import Derived.Deep.RegionLaw
import Derived.RegionTactic
import Derived.Test.YtnfjbjmdempafaaPxA
import Derived.Test.YtnfjbjmdempafaaPxB
import Derived.Test.YtnfjbjmdempafaaPxSetRef3
import Derived.Test.YtnfjbjmdempafaaPxD
import Derived.Test.YtnfjbjmdempafaaPxGramFew
import Derived.Test.YtnfjbjmdempafaaPxC
import Derived.Test.YtnfjbjmdempafaaPxF
import Derived.Test.YtnfjbjmdempafaaPxH
namespace Go.Proofs.Ytnfjbjmdempafaa
open Go.RowKit
/-- v is a slice of n elements that holds the cells cs. -/
def CellsAt (w : World) (v : Value) (n : Nat) (cs : List Value) : Prop := ∃ a cap, v = .slice a n cap ∧ n ≤ cap ∧ (n = 0 ∨ ∃ b off, a = some ⟨b, off, none⟩ ∧ ∀ j u, cs[j]? = some u → w.cell? ⟨b, off + j, none⟩ = some u)
theorem CellsAt.kept {k : Nat} {w w' : World} {v : Value} {n : Nat} {cs : List Value} (h : CellsAt w v n cs) (hb : Below k w w') (hk : w.heap.size ≤ k) : CellsAt w' v n cs := by
  obtain ⟨a, cap, rfl, hcap, h⟩ := h
  rcases h with h | ⟨b, off, rfl, hc⟩
  · exact ⟨a, cap, rfl, hcap, .inl h⟩
  · exact ⟨_, cap, rfl, hcap, .inr ⟨b, off, rfl, fun i c hi => by have := lt_of_cell (hc i c hi); rw [(bcell hb).1 _ _ (by omega)]; exact hc i c hi⟩⟩
theorem CellsAt.of_own {w : World} {base : Nat} {e : TypeId} {size : Nat} {v : Value} {n : Nat} {cs : List Value} (h : w.ownsRow base e size v n cs) : CellsAt w v n cs := by
  have h' := h
  rcases h.2 with ⟨rfl, h0⟩ | ⟨g, cap, cur, rfl, -, -, hcap, -⟩
  · exact ⟨none, 0, by rw [h0], by omega, .inl h0⟩
  · refine ⟨_, cap, rfl, hcap, .inr ⟨g, 0, rfl, fun i r hr => ?_⟩⟩
    have := h'.cells rfl i r hr
    rw [Addr.add_lit] at this; exact this
theorem CellsAt.src {w : World} {a : Option Addr} {n c : Nat} {cs : List Value} (h : CellsAt w (.slice a n c) n cs) : n = 0 ∨ ∃ b off, a = some ⟨b, off, none⟩ ∧ ∀ j u, cs[j]? = some u → w.cell? ⟨b, off + j, none⟩ = some u := by
  obtain ⟨a', c', e, -, h⟩ := h
  injection e with e1 e2 e3
  subst e1
  exact h
theorem CellsAt.cap {w : World} {a : Option Addr} {n m c : Nat} {cs : List Value} (h : CellsAt w (.slice a m c) n cs) : n ≤ c := by
  obtain ⟨a', c', e, h, -⟩ := h
  injection e with e1 e2 e3
  omega
def itemC (x : PI) : List Value := [.int .i64 x.op, .int .i64 x.kids, .int .i64 x.rule, .int .u64 x.s0, .int .u64 x.s1, .int .u64 x.s2, .int .u64 x.s3]
def itemsC (l : List PI) : List Value := l.flatMap itemC
theorem itemsC_length (l : List PI) : (itemsC l).length = l.length * 7 := flat_length itemC 7 (fun _ => rfl) l
theorem itemsC_at {l : List PI} {i j : Nat} {x : PI} (h : l[i]? = some x) (hj : j < 7) : (itemsC l)[i * 7 + j]? = (itemC x)[j]? := flat_at itemC 7 (fun _ => rfl) l i x j h hj
theorem itemsC_append (l m : List PI) : itemsC (l ++ m) = itemsC l ++ itemsC m := by unfold itemsC; rw [List.flatMap_append]
def ItemsAt (w : World) (v : Value) (l : List PI) : Prop := l.length ≤ maxLen ∧ CellsAt w v l.length (itemsC l)
theorem ItemsAt.kept {k : Nat} {w w' : World} {v : Value} {l : List PI} (h : ItemsAt w v l) (hb : Below k w w') (hk : w.heap.size ≤ k) : ItemsAt w' v l := ⟨h.1, h.2.kept hb hk⟩
/-- The cells of one item. -/
def ItemAt (w : World) (b o : Nat) (x : PI) : Prop := w.cell? ⟨b, o, none⟩ = some (.int .i64 x.op) ∧ w.cell? ⟨b, o + 1, none⟩ = some (.int .i64 x.kids) ∧ w.cell? ⟨b, o + 2, none⟩ = some (.int .i64 x.rule) ∧ w.cell? ⟨b, o + 3, none⟩ = some (.int .u64 x.s0) ∧ w.cell? ⟨b, o + 4, none⟩ = some (.int .u64 x.s1) ∧ w.cell? ⟨b, o + 5, none⟩ = some (.int .u64 x.s2) ∧ w.cell? ⟨b, o + 6, none⟩ = some (.int .u64 x.s3)
theorem ItemsAt.at {w : World} {a : Option Addr} {n c : Nat} {l : List PI} {i : Nat} {x : PI} (h : ItemsAt w (.slice a n c) l) (hx : l[i]? = some x) : ∃ b off, a = some ⟨b, off, none⟩ ∧ ItemAt w b (off + i * 7) x := by
  obtain ⟨-, a', c', e, -, h⟩ := h
  injection e with e1 e2 e3
  subst e1
  rcases h with h | ⟨b, off, rfl, hc⟩
  · have := (List.getElem?_eq_some_iff.1 hx).1; omega
  · refine ⟨b, off, rfl, ?_⟩
    have hh : ∀ j u, j < 7 → (itemC x)[j]? = some u → w.cell? ⟨b, off + i * 7 + j, none⟩ = some u := fun j u hj hu => by
      rw [Nat.add_assoc]; exact hc _ _ (by rw [itemsC_at hx hj]; exact hu)
    exact ⟨hh 0 _ (by decide) rfl, hh 1 _ (by decide) rfl, hh 2 _ (by decide) rfl, hh 3 _ (by decide) rfl, hh 4 _ (by decide) rfl, hh 5 _ (by decide) rfl, hh 6 _ (by decide) rfl⟩
theorem ItemsAt.slice {w : World} {v : Value} {l : List PI} (h : ItemsAt w v l) : ∃ a c, v = .slice a l.length c := by
  obtain ⟨-, a, c, e, -⟩ := h; exact ⟨a, c, e⟩
theorem ItemsAt.cap {w : World} {a : Option Addr} {n c : Nat} {l : List PI} (h : ItemsAt w (.slice a n c) l) : l.length ≤ c := h.2.cap
theorem ItemAt.kept {k : Nat} {w w' : World} {b o : Nat} {x : PI} (h : ItemAt w b o x) (hb : Below k w w') (hk : w.heap.size ≤ k) : ItemAt w' b o x := by
  obtain ⟨h0, h1, h2, h3, h4, h5, h6⟩ := h
  have hl := lt_of_cell h0
  have hc := fun o => (bcell hb).1 b o (by omega)
  exact ⟨by rw [hc]; exact h0, by rw [hc]; exact h1, by rw [hc]; exact h2, by rw [hc]; exact h3, by rw [hc]; exact h4, by rw [hc]; exact h5, by rw [hc]; exact h6⟩
/-- The items behind the first ones. -/
theorem ItemsAt.drop {w : World} {b off c : Nat} {n k : Nat} {l : List PI} (h : ItemsAt w (.slice (some ⟨b, off, none⟩) n c) l) (hk : k ≤ l.length) {c' : Nat} (hc' : l.length - k ≤ c') : ItemsAt w (.slice (some ⟨b, off + k * 7, none⟩) (l.length - k) c') (l.drop k) := by
  obtain ⟨hm, a', c1, e, -, h⟩ := h
  injection e with e1 e2 e3
  subst e1
  refine ⟨by rw [List.length_drop]; omega, _, c', by rw [List.length_drop], by rw [List.length_drop]; exact hc', ?_⟩
  rcases h with h | ⟨b', off', e, hc⟩
  · left; rw [List.length_drop]; omega
  · injection e with e
    injection e with e1 e2
    subst e1 e2
    right
    refine ⟨b, off + k * 7, rfl, fun j u hu => ?_⟩
    rw [Nat.add_assoc]
    refine hc _ _ ?_
    have : itemsC l = itemsC (l.take k) ++ itemsC (l.drop k) := by rw [← itemsC_append, List.take_append_drop]
    rw [this, List.getElem?_append_right (by rw [itemsC_length, List.length_take]; have : min k l.length = k := by omega
                                             rw [this]; omega), itemsC_length, List.length_take, show min k l.length = k by omega, Nat.add_sub_cancel_left]
    exact hu
/-- A rule with items: its cells, given the value of the items. -/
def ruleQ (p : PQ × Value) : List Value := [.string p.1.name, p.2]
def rulesQ (ps : List (PQ × Value)) : List Value := ps.flatMap ruleQ
theorem rulesQ_at {ps : List (PQ × Value)} {i j : Nat} {p : PQ × Value} (h : ps[i]? = some p) (hj : j < 2) : (rulesQ ps)[i * 2 + j]? = (ruleQ p)[j]? := flat_at ruleQ 2 (fun _ => rfl) ps i p j h hj
/-- v is a slice of rules with items. -/
def QsAt (w : World) (v : Value) (l : List PQ) : Prop := l.length ≤ maxLen ∧ ∃ vs : List Value, vs.length = l.length ∧ CellsAt w v l.length (rulesQ (l.zip vs)) ∧ ∀ (j : Nat) (q : PQ) (u : Value), l[j]? = some q → vs[j]? = some u → ItemsAt w u q.items
theorem QsAt.kept {k : Nat} {w w' : World} {v : Value} {l : List PQ} (h : QsAt w v l) (hb : Below k w w') (hk : w.heap.size ≤ k) : QsAt w' v l := by
  obtain ⟨h1, vs, h2, h3, h4⟩ := h
  exact ⟨h1, vs, h2, h3.kept hb hk, fun j q u a b => (h4 j q u a b).kept hb hk⟩
theorem QsAt.slice {w : World} {v : Value} {l : List PQ} (h : QsAt w v l) : ∃ a c, v = .slice a l.length c := by
  obtain ⟨-, vs, -, ⟨a, c, e, -⟩, -⟩ := h; exact ⟨a, c, e⟩
theorem QsAt.at {w : World} {a : Option Addr} {n c : Nat} {l : List PQ} {i : Nat} {q : PQ} (h : QsAt w (.slice a n c) l) (hx : l[i]? = some q) : ∃ b off ia ic, a = some ⟨b, off, none⟩ ∧ w.cell? ⟨b, off + i * 2, none⟩ = some (.string q.name) ∧ w.cell? ⟨b, off + i * 2 + 1, none⟩ = some (.slice ia q.items.length ic) ∧ ItemsAt w (.slice ia q.items.length ic) q.items := by
  obtain ⟨-, vs, h2, ⟨a', c', e, -, h⟩, h4⟩ := h
  injection e with e1 e2 e3
  subst e1
  have hil := (List.getElem?_eq_some_iff.1 hx).1
  obtain ⟨u, hu⟩ : ∃ u, vs[i]? = some u := ⟨_, List.getElem?_eq_getElem (by omega)⟩
  have hz : (l.zip vs)[i]? = some (q, u) := by rw [List.getElem?_zip_eq_some]; exact ⟨hx, hu⟩
  have hi := h4 i q u hx hu
  obtain ⟨ia, ic, rfl⟩ := hi.slice
  rcases h with h | ⟨b, off, rfl, hc⟩
  · omega
  · refine ⟨b, off, ia, ic, rfl, ?_, ?_, hi⟩
    · have := hc (i * 2 + 0) _ (rulesQ_at hz (by decide)); exact this
    · rw [Nat.add_assoc]; exact hc (i * 2 + 1) _ (rulesQ_at hz (by decide))
/-- Block b of memory: its cells and their type. -/
def Bl (w : World) (b : Nat) (t : TypeId) (cs : Array Value) : Prop := w.heap[b]? = some (.cells cs t (0, 0))
theorem Bl.lt {w : World} {b : Nat} {t : TypeId} {cs : Array Value} (h : Bl w b t cs) : b < w.heap.size := (Array.getElem?_eq_some_iff.1 h).1
theorem Bl.cell {w : World} {b : Nat} {t : TypeId} {cs : Array Value} (h : Bl w b t cs) {o : Nat} {u : Value} (ho : cs[o]? = some u) : w.cell? ⟨b, o, none⟩ = some u := cells_at h ho
theorem Bl.free {w : World} {b : Nat} {t : TypeId} {cs : Array Value} (h : Bl w b t cs) (o : Nat) : w.frozen? ⟨b, o, none⟩ = false := cells_fz h o
theorem Bl.below {w w' : World} {b : Nat} {t : TypeId} {cs : Array Value} (h : Bl w b t cs) (hb : Below w.heap.size w w') : Bl w' b t cs := by
  unfold Bl; rw [hb.block b h.lt]; exact h
theorem Bl.new (w : World) (t : TypeId) (cs : Array Value) : Bl (w.alloc (.cells cs t)) w.heap.size t cs := heap_alloc_new w _
theorem Bl.set {w : World} {b : Nat} {t : TypeId} {v : Value} (h : Bl w b t #[v]) (u : Value) : Bl (w.setCell ⟨b, 0, none⟩ u) b t #[u] := heap_setCell_same w b 0 _ _ u h
theorem Bl.other {w : World} {b c o : Nat} {t : TypeId} {cs : Array Value} (h : Bl w b t cs) (hc : b ≠ c) (u : Value) : Bl (w.setCell ⟨c, o, none⟩ u) b t cs := by
  unfold Bl; rw [heap_setCell_other _ _ _ _ hc]; exact h
theorem Bl.grown {w w' : World} {b : Nat} {t : TypeId} {cs : Array Value} {r : Option Nat} (h : Bl w b t cs) (hg : w.grownBy w' r) (hr : ∀ g, r = some g → ∃ c t' fz, w.heap[g]? = some (.cells c t' fz) ∧ t ≠ t') : Bl w' b t cs := by
  unfold Bl
  rw [hg.block b h.lt (fun e => by
    obtain ⟨c, t', fz, h1, h2⟩ := hr b e.symm
    unfold Bl at h
    rw [h] at h1
    injection h1 with h1
    injection h1 with _ h1
    exact h2 h1)]
  exact h
/-- What was in memory stays, but for the blocks xb and yb and for blocks of the type t1 from block base on. -/
structure Kp (base xb yb : Nat) (t1 : TypeId) (w w' : World) : Prop where
  os : w'.os = w.os
  tape : w'.tape = w.tape
  output : w'.output = w.output
  size : w.heap.size ≤ w'.heap.size
  block : ∀ k, k < w.heap.size → k ≠ xb → k ≠ yb → (k < base ∨ ∀ c t fz, w.heap[k]? = some (.cells c t fz) → t ≠ t1) → w'.heap[k]? = w.heap[k]?
section
variable {base xb yb : Nat} {t1 : TypeId} {w w1 w2 w' : World}
theorem Kp.refl (w : World) : Kp base xb yb t1 w w := ⟨rfl, rfl, rfl, Nat.le_refl _, fun _ _ _ _ _ => rfl⟩
theorem Kp.trans (h : Kp base xb yb t1 w w1) (k : Kp base xb yb t1 w1 w2) : Kp base xb yb t1 w w2 :=
  ⟨k.os.trans h.os, k.tape.trans h.tape, k.output.trans h.output, Nat.le_trans h.size k.size, fun i hi hx hy hc => by
    have e := h.block i hi hx hy hc
    rw [k.block i (Nat.lt_of_lt_of_le hi h.size) hx hy (by rw [e]; exact hc), e]⟩
theorem Kp.of_below (h : Below w.heap.size w w') : Kp base xb yb t1 w w' := ⟨h.os, h.tape, h.output, h.size, fun k hk _ _ _ => h.block k hk⟩
theorem Kp.below (h : Kp base xb yb t1 w w') (hx : base ≤ xb) (hy : base ≤ yb) (hb : base ≤ w.heap.size) : Below base w w' :=
  ⟨h.os, h.tape, h.output, h.size, fun k hk => h.block k (by omega) (by omega) (by omega) (.inl hk)⟩
theorem Kp.fresh (h : Kp base xb yb t1 w w') (hx : w.heap.size ≤ xb) (hy : w.heap.size ≤ yb) (xc yc : Nat) : Kp base xc yc t1 w w' :=
  ⟨h.os, h.tape, h.output, h.size, fun k hk _ _ hc => h.block k hk (by omega) (by omega) hc⟩
theorem Kp.set {b o : Nat} {c : Array Value} {t : TypeId} {fz : Nat × Nat} (h : w.heap[b]? = some (.cells c t fz)) (hx : b = xb ∨ b = yb ∨ (base ≤ b ∧ t = t1)) (v : Value) : Kp base xb yb t1 w (w.setCell ⟨b, o, none⟩ v) :=
  ⟨rfl, rfl, rfl, by simp [World.setCell], fun k _ hk hy hc => heap_setCell_other _ _ _ _ (by
    rintro rfl
    rcases hx with e | e | ⟨h1, h2⟩
    · exact hk e
    · exact hy e
    · rcases hc with hc | hc
      · omega
      · exact hc _ _ _ h h2)⟩
theorem Kp.grown {r : Option Nat} (hg : w.grownBy w' r) (hr : ∀ g, r = some g → base ≤ g ∧ ∃ c fz, w.heap[g]? = some (.cells c t1 fz)) : Kp base xb yb t1 w w' :=
  ⟨hg.os, hg.tape, hg.output, hg.size, fun k hk _ _ hc => hg.block k hk (by
    intro e
    obtain ⟨h1, c, fz, h2⟩ := hr k e.symm
    rcases hc with hc | hc
    · omega
    · exact hc _ _ _ h2 rfl)⟩
theorem Kp.own (h : Kp base xb yb t1 w w') {b' : Nat} {e : TypeId} {size n : Nat} {v : Value} {xs : List Value} (hv : w.ownsRow b' e size v n xs) (h1 : e ≠ t1) (hx : v.ownBlock ≠ some xb) (hy : v.ownBlock ≠ some yb) : w'.ownsRow b' e size v n xs := by
  obtain ⟨hl, hv⟩ := hv
  refine ⟨hl, ?_⟩
  rcases hv with hv | ⟨g, cap, cur, rfl, hb, hh, hr⟩
  · exact .inl hv
  · refine .inr ⟨g, cap, cur, rfl, hb, ?_, hr⟩
    rw [h.block g (Array.getElem?_eq_some_iff.1 hh).1 (fun e => hx (by rw [e]; rfl)) (fun e => hy (by rw [e]; rfl)) (.inr fun c t fz hc => by
      rw [hh] at hc
      injection hc with hc
      injection hc with _ hc _
      subst hc
      exact h1)]
    exact hh
theorem Kp.bl (h : Kp base xb yb t1 w w') {b : Nat} {t : TypeId} {cs : Array Value} (hv : Bl w b t cs) (hx : b ≠ xb) (hy : b ≠ yb) (ht : t ≠ t1) : Bl w' b t cs := by
  unfold Bl
  rw [h.block b hv.lt hx hy (.inr fun c t fz hc => by
    unfold Bl at hv
    rw [hv] at hc
    injection hc with hc
    injection hc with _ hc _
    subst hc
    exact ht)]
  exact hv
theorem Kp.late {W W' : World} (h : Kp base xb yb t1 w W) {r : Option Nat} (hg : W.grownBy W' r) (hr : ∀ g, r = some g → w.heap.size ≤ g) : Kp base xb yb t1 w W' :=
  ⟨hg.os.trans h.os, hg.tape.trans h.tape, hg.output.trans h.output, Nat.le_trans h.size hg.size, fun k hk hx hy hc => by
    rw [hg.block k (Nat.lt_of_lt_of_le hk h.size) (fun e => by have := hr k e.symm; omega)]
    exact h.block k hk hx hy hc⟩
end
theorem own_block_lt {w : World} {base : Nat} {e : TypeId} {size n : Nat} {v : Value} {xs : List Value} (h : w.ownsRow base e size v n xs) {b : Nat} (hb : w.heap.size ≤ b) : v.ownBlock ≠ some b := fun e => by
  have := (h.lt b e).2; omega
/-- Nodes in a row of the call's own, with rows of their kids. -/
def NRow (base : Nat) (v : Value) (ns : List PN) (qs : List Value) (w : World) : Prop := qs.length = ns.length ∧ w.ownsRow base 35 7 v ns.length (nodesC (ns.zip qs)) ∧
  ∀ (j : Nat) (n : PN) (q : Value), ns[j]? = some n → qs[j]? = some q → w.ownsRow base 3 1 q n.kids.length (intsV n.kids)
theorem NRow.nil (base : Nat) (w : World) : NRow base (.slice none 0 0) [] [] w := ⟨rfl, World.ownsRow_nil _ _ _ _, fun j n q h _ => by simp at h⟩
theorem NRow.grown {base : Nat} {v : Value} {ns : List PN} {qs : List Value} {w w' : World} (h : NRow base v ns qs w) (hb : Below w.heap.size w w') : NRow base v ns qs w' :=
  ⟨h.1, ownsRow_grown h.2.1 hb, fun j n q a b => ownsRow_grown (h.2.2 j n q a b) hb⟩
theorem NRow.nodes {base : Nat} {v : Value} {ns : List PN} {qs : List Value} {w : World} (h : NRow base v ns qs w) (hl : ns.length ≤ maxLen) (hk : ∀ n, n ∈ ns → n.kids.length ≤ maxLen) : NodesAt w v ns :=
  NodesAt.of_own h.2.1 h.1 hl (fun i n q a b => ⟨IntsAt.of_own (h.2.2 i n q a b), hk n (List.mem_of_getElem? a)⟩)
end Go.Proofs.Ytnfjbjmdempafaa
namespace Go.Proofs.Ytnfjbjmdempafaa
section
/- 4. What is reached. -/
inductive Rch (E : Nat → Nat → Prop) (r0 : Nat) : Nat → Prop where
  | here : Rch E r0 r0
  | call {a b : Nat} : Rch E r0 a → E a b → Rch E r0 b
theorem Rch.trans {E : Nat → Nat → Prop} {a b c : Nat} (h : Rch E a b) (k : Rch E b c) : Rch E a c := by
  induction k with
  | here => exact h
  | call _ e ih => exact .call ih e
noncomputable def rchB (E : Nat → Nat → Prop) (r0 j : Nat) : Bool := @decide (Rch E r0 j) (Classical.propDecidable _)
theorem rchB_iff {E : Nat → Nat → Prop} {r0 j : Nat} : rchB E r0 j = true ↔ Rch E r0 j := by unfold rchB; exact @decide_eq_true_iff _ (Classical.propDecidable _)
def callE (rs : List PR) (ns : List PN) (a b : Nat) : Prop := ∃ (i : Nat) (n : PN), ns[i]? = some n ∧ n.op = 2 ∧ ownL rs (i : Int) = a ∧ n.rule = (b : Int)
noncomputable def reachL (rs : List PR) (ns : List PN) (r : Int) : List Nat := if 0 ≤ r ∧ r < rs.length then memb (rchB (callE rs ns) r.toNat) rs.length else []
theorem cnt_mono {f g : Nat → Bool} : ∀ n, (∀ i, i < n → f i = true → g i = true) → cnt f n ≤ cnt g n
  | 0, _ => Nat.le_refl _
  | n + 1, h => by
    show cnt f n + (f n).toNat ≤ cnt g n + (g n).toNat
    have h1 := cnt_mono n (fun i hi => h i (by omega))
    have h2 := h n (by omega)
    cases hf : f n with
    | false => simp; omega
    | true => rw [h2 hf]; simp; omega
theorem cnt_more {f g : Nat → Bool} : ∀ n, (∀ i, i < n → f i = true → g i = true) → (∃ j, j < n ∧ f j = false ∧ g j = true) → cnt f n < cnt g n
  | 0, _, ⟨j, hj, _⟩ => absurd hj (Nat.not_lt_zero _)
  | n + 1, h, ⟨j, hj, hf, hg⟩ => by
    show cnt f n + (f n).toNat < cnt g n + (g n).toNat
    have h2 := h n (by omega)
    by_cases e : j = n
    · subst e
      have h1 := cnt_mono j (fun i hi => h i (by omega))
      rw [hf, hg]; simp; omega
    · have h1 := cnt_more n (fun i hi => h i (by omega)) ⟨j, by omega, hf, hg⟩
      cases hf : f n with
      | false => simp; omega
      | true => rw [h2 hf]; simp; omega
/-- A set of rules that is closed, and holds nothing that is not reached, is what is reached. -/
theorem closed_rch {E : Nat → Nat → Prop} {r0 n : Nat} {m : Nat → Bool} (h0 : m r0 = true) (hc : ∀ a b, a < n → m a = true → E a b → m b = true) (hE : ∀ a b, E a b → b < n) (hr : r0 < n) : ∀ j, Rch E r0 j → m j = true ∧ j < n := by
  intro j hj
  induction hj with
  | here => exact ⟨h0, hr⟩
  | call _ e ih => exact ⟨hc _ _ ih.2 ih.1 e, hE _ _ e⟩
theorem closed_is {E : Nat → Nat → Prop} {r0 n : Nat} {m : Nat → Bool} (h0 : m r0 = true) (hc : ∀ a b, a < n → m a = true → E a b → m b = true) (hE : ∀ a b, E a b → b < n) (hr : r0 < n) (hs : ∀ j, j < n → m j = true → Rch E r0 j) : ∀ j, j < n → m j = rchB E r0 j := by
  intro j hj
  cases hm : m j with
  | true => exact (rchB_iff.2 (hs j hj hm)).symm
  | false =>
    cases hb : rchB E r0 j with
    | false => rfl
    | true => have := (closed_rch h0 hc hE hr j (rchB_iff.1 hb)).1; rw [hm] at this; cases this
/-- A round of the reference: closed before, or one more mark. -/
theorem round_more {E : Nat → Nat → Prop} {r0 n k : Nat} {m m' : Nat → Bool} (h0 : m r0 = true) (hE : ∀ a b, E a b → b < n) (hr : r0 < n) (hs : ∀ j, j < n → m' j = true → Rch E r0 j) (hle : ∀ j, j < n → m j = true → m' j = true)
    (hstep : ∀ a b, a < n → m a = true → E a b → m' b = true) (h : (∀ a b, a < n → m a = true → E a b → m b = true) ∨ k < cnt m n) :
    (∀ a b, a < n → m' a = true → E a b → m' b = true) ∨ k + 1 < cnt m' n := by
  by_cases hc : ∀ a b, a < n → m a = true → E a b → m b = true
  · left
    intro a b ha hm he
    have h1 := closed_rch h0 hc hE hr b (.call (hs a ha hm) he)
    exact hle b h1.2 h1.1
  · right
    rcases h with h | h
    · exact absurd h hc
    · have : ∃ j, j < n ∧ m j = false ∧ m' j = true := by
        apply Classical.byContradiction
        intro hn
        apply hc
        intro a b ha hm he
        cases hb : m b with
        | true => rfl
        | false => exact absurd ⟨b, hE a b he, hb, hstep a b ha hm he⟩ hn
      have := cnt_more n hle this
      omega
theorem round_all {E : Nat → Nat → Prop} {n : Nat} {m : Nat → Bool} (h : (∀ a b, a < n → m a = true → E a b → m b = true) ∨ n < cnt m n) : ∀ a b, a < n → m a = true → E a b → m b = true := by
  rcases h with h | h
  · exact h
  · have := cnt_le m n; omega
theorem made_kind {n : PN} {R : Nat} (h : madeB n R = true) : 0 ≤ n.op ∧ n.op ≤ 9 ∧ (n.op = 2 → 0 ≤ n.rule ∧ n.rule < R) ∧ (n.op ≠ 2 → n.rule = 0) ∧ (n.op ≠ 1 → n.s0 = 0 ∧ n.s1 = 0 ∧ n.s2 = 0 ∧ n.s3 = 0) := by
  unfold madeB at h
  simp only [Bool.and_eq_true, decide_eq_true_eq] at h
  obtain ⟨⟨⟨⟨h1, h2⟩, -⟩, h3⟩, h4⟩ := h
  refine ⟨h1, h2, fun e => ?_, fun e => ?_, fun e => ?_⟩
  · rw [if_pos e] at h3; simpa using h3
  · rw [if_neg e] at h3; simpa using h3
  · simp at h4
    rcases h4 with h4 | h4
    · exact absurd h4 e
    · exact ⟨h4.1.1.1, h4.1.1.2, h4.1.2, h4.2⟩
theorem good_node {rs : List PR} {ns : List PN} (h : ∀ i, i < ns.length → nodeBad ns rs.length i = false) {i : Nat} {n : PN} (hn : ns[i]? = some n) : madeB n rs.length = true := by
  have := h i (List.getElem?_eq_some_iff.1 hn).1
  unfold nodeBad at this
  rw [hn] at this
  simpa using this
theorem good_mem {rs : List PR} {ns : List PN} (h : ∀ i, i < ns.length → nodeBad ns rs.length i = false) {n : PN} (hn : n ∈ ns) : madeB n rs.length = true := by
  obtain ⟨i, hi, rfl⟩ := List.getElem_of_mem hn
  exact good_node h (List.getElem?_eq_getElem hi)
end
section
open Go.RowKit
theorem Bl.set' {w : World} {b o : Nat} {t : TypeId} {cs : Array Value} (h : Bl w b t cs) (u : Value) : Bl (w.setCell ⟨b, o, none⟩ u) b t (cs.setIfInBounds o u) := heap_setCell_same w b o _ _ u h
theorem Bl.new' {w : World} {B : Nat} {t : TypeId} {cs : Array Value} (hB : B = w.heap.size) : Bl (w.alloc (.cells cs t)) B t cs := by subst hB; exact Bl.new w t cs
theorem Bl.drew {w : World} {b : Nat} {t : TypeId} {cs : Array Value} (h : Bl w b t cs) : Bl w.drew b t cs := h
theorem Bl.past {w : World} {b : Nat} {t : TypeId} {cs : Array Value} {o : Obj} (h : Bl w b t cs) : Bl (w.alloc o) b t cs := h.below (one_new w o)
theorem NAt.off {f : Nat → Nat} {n b c o : Nat} {v : Value} {w : World} (h : NAt f n b w) (hc : b ≠ c) : NAt f n b (w.setCell ⟨c, o, none⟩ v) := fun j hj => by
  obtain ⟨h1, h2⟩ := h j hj
  exact ⟨by rw [World.cell?_setCell_other _ _ _ _ (by intro e; injection e with e; exact hc e.symm)]; exact h1, by rw [World.frozen?_setCell]; exact h2⟩
end
section
open Go.RowKit
/-- Two blocks of fourteen numbers: the sizes as they grow, and the result. -/
def St7 (w : World) (S R : Nat) (f : Nat → Nat) (wr : World) : Prop := Below w.heap.size w wr ∧ S < wr.heap.size ∧ NAt f 14 S wr ∧ NAt (fun _ => 0) 14 R wr
theorem St7.below {w : World} {S R : Nat} {f : Nat → Nat} {wr w' : World} (h : St7 w S R f wr) (hb : Below wr.heap.size wr w') (hr : R < S) : St7 w S R f w' :=
  ⟨h.1.trans (hb.mono h.1.size), Nat.lt_of_lt_of_le h.2.1 hb.size, h.2.2.1.below hb h.2.1, h.2.2.2.below hb (by have := h.2.1; omega)⟩
theorem St7.put {w : World} {S R : Nat} {f g : Nat → Nat} {wr : World} {i x : Nat} {y : Int} (h : St7 w S R f wr) (hy : y = x) (hS : w.heap.size ≤ S) (hr : R < S) (hg : ∀ j, j < 14 → updN f i x j = g j) : St7 w S R g (wr.setCell ⟨S, i, none⟩ (.int .i64 y)) :=
  ⟨h.1.setCell (p := ⟨S, i, none⟩) hS _, by simpa using h.2.1, (h.2.2.1.put' hy).congr hg, h.2.2.2.off (by omega)⟩
end
section
open Go.RowKit
theorem St7.lo {w : World} {S R : Nat} {f : Nat → Nat} {wr : World} (h : St7 w S R f wr) : Below w.heap.size w wr := h.1
theorem St7.drew {w : World} {S R : Nat} {f : Nat → Nat} {wr : World} (h : St7 w S R f wr) : St7 w S R f wr.drew := ⟨h.1.drew, h.2.1, h.2.2.1, h.2.2.2⟩
end
end Go.Proofs.Ytnfjbjmdempafaa
namespace Go.Proofs.Ytnfjbjmdempafaa
section
open Go.RowKit
end
section
open Go.RowKit
theorem own_set {W : World} {base : Nat} {e : TypeId} {size n c g j : Nat} {xs : List Value} (h : W.ownsRow base e size (.slice (some ⟨g, 0, none⟩) n c) n xs) (u : Value) : (W.setCell ⟨g, j, none⟩ u).ownsRow base e size (.slice (some ⟨g, 0, none⟩) n c) n (xs.set j u) := by
  obtain ⟨hl, h⟩ := h
  refine ⟨by rw [List.length_set]; exact hl, ?_⟩
  rcases h with ⟨h, -⟩ | ⟨g', cap, cur, hv, hb, hh, h1, h2, h3, h4⟩
  · cases h
  · injection hv with e1 e2 e3
    injection e1 with e1
    injection e1 with e1
    subst e1 e3
    refine .inr ⟨g, c, cur.setIfInBounds j u, rfl, hb, heap_setCell_same W g j _ _ u hh, h1, h2, by simpa using h3, ?_⟩
    rw [← h4]
    rw [Array.toList_setIfInBounds, List.take_set]

theorem own_open' {W : World} {base : Nat} {e : TypeId} {size n c : Nat} {a : Option Addr} {xs : List Value} (h : W.ownsRow base e size (.slice a n c) n xs) (hn : 0 < n) : ∃ g, a = some ⟨g, 0, none⟩ ∧ base ≤ g ∧ (∀ j u, xs[j]? = some u → W.cell? ⟨g, j, none⟩ = some u) ∧ ∀ o, W.frozen? ⟨g, o, none⟩ = false := by
  have h' := h
  rcases h.2 with ⟨-, e0⟩ | ⟨g, cap, cur, e, hb, -⟩
  · omega
  · injection e with e1 e2 e3
    subst e1 e3
    exact ⟨g, rfl, hb, fun j u hu => by have := h'.cells rfl j u hu; rw [Addr.add_lit, Nat.zero_add] at this; exact this, fun o => h'.frozenAt o⟩
/-- append onto a row of the call's own, in a region that draws. -/
theorem step_append_own {ops : Array Oper} {o : Oper} {a : Act} {w : World} {K : Act → World → Prop} {Q : Exit → Act → World → Prop} {E : Prop} (hgd : o.guard = none) (s x : Operand) (t : TypeId)
    (ho : o.op = .call { callee := .builtin .append, args := #[s, x], argTypes := #[t, t] })
    (base : Nat) (e : TypeId) (i : TypeInfo) (z : Value) (size bytes : Nat) (ht : Try.prog.underlying t = some (.slice e)) (hi : Try.prog.info? e = some i) (hz : i.zero = some z)
    (hsize : i.size = size) (hby : i.bytes = bytes) (hzs : z.cells.size = size) (hsz : 0 < size) (v : Value) (n : Nat) (xs : List Value) (hs : a.eval s = v) (hown : w.ownsRow base e size v n xs)
    (ad : Addr) (m c : Nat) (news : List Value) (hx : a.eval x = .slice (some ad) m c) (hl : news.length = m * size) (hnews : ∀ j u, news[j]? = some u → w.cell? (ad.add j) = some u) (h1 : ∀ u ∈ news, u.oneCell' = true)
    (h63 : n + m ≤ maxLen) (hbytes : (n + m) * bytes ≤ 140737488355328) (hbase : base ≤ w.heap.size)
    (h : ∀ a' cap' w', w'.ownsRow base e size (.slice a' (n + m) cap') (n + m) (xs ++ news) → w.grownBy w' v.ownBlock → ((Value.slice a' (n + m) cap').ownBlock = v.ownBlock ∨ (Value.slice a' (n + m) cap').ownBlock = some w.heap.size) → K (a.put o.dst (.slice a' (n + m) cap')) w') :
    if Region.wanted o (yielded ops a.tmps) = true then Oper.wp Try.prog o a w K Q else E := by
  have hw : Region.wanted o (yielded ops a.tmps) = true := by simp [Region.wanted, hgd]
  rw [if_pos hw]
  obtain ⟨v', w', hr, h2, h3, -, h5⟩ := run_append_own_at (P := Try.prog) w base t o.type e i z size bytes ht hi hz hsize hby hzs hsz v n xs hown ad m c news hl hnews h1 h63 hbytes hbase
  obtain ⟨a', cap', rfl⟩ : ∃ a' c', v' = .slice a' (n + m) c' := by
    rcases h2.2 with ⟨e, e0⟩ | ⟨g, cap, cur, e, -⟩
    · exact ⟨none, 0, by rw [e, e0]⟩
    · exact ⟨_, _, e⟩
  unfold Oper.wp execOp
  simp only [ho, resolve, invoke, builtin, Sem.run_bind, Sem.run_pure, Result.andThen_ok, List.map_toArray, List.map_cons, List.map_nil, hs, hx, hr]
  exact h a' cap' w' h2 h3 h5
theorem Bl.news {W : World} {b : Nat} {t : TypeId} {cs : List Value} (h : Bl W b t cs.toArray) : ∀ j u, cs[j]? = some u → W.cell? ((⟨b, 0, none⟩ : Addr).add j) = some u := fun j u hu => by
  rw [Addr.add_lit, Nat.zero_add]
  exact h.cell (by rw [List.getElem?_toArray]; exact hu)
theorem below_alloc' {n0 : Nat} {wr W : World} (h : Below n0 wr W) (hn : n0 = wr.heap.size) (o : Obj) : Below n0 wr (W.alloc o) := h.alloc (by rw [hn]; exact h.size) o
theorem q_assert (x : Int) (w : World) : (Instr.typeAssert (.iface 3 (.int .i64 x)) 20 3 false).run Try.prog w = .ok (.int .i64 x) w := by kernel_rfl
theorem set_twin {w : World} {g i j : Nat} {x y : Value} (hx : w.cell? ⟨g, i, none⟩ = some x) (hy : w.cell? ⟨g, j, none⟩ = some y) : (w.setCell ⟨g, i, none⟩ y).cell? ⟨g, j, none⟩ = some y := by
  by_cases e : i = j
  · subst e; exact World.cell?_setCell_same' _ _ _ (by rw [hx]; rfl)
  · rw [World.cell?_setCell_other _ _ _ _ (by intro h; injection h with _ h; exact e h)]; exact hy
end
section
open Go.RowKit
end
section
open Go.RowKit
end
end Go.Proofs.Ytnfjbjmdempafaa
namespace Go.Proofs.Ytnfjbjmdempafaa
section
open Go.RowKit
/-- A rule's nodes lie from behind the root before it to its own root. -/
theorem own_span {ns : List PN} : ∀ (rs : List PR) (b : Int), -1 ≤ b → ordR ns rs b = true → ∀ (r : Nat) (x : PR), rs[r]? = some x → (b ≤ exL ns x.root ∧ exL ns x.root < x.root ∧ x.root < ns.length) ∧ ∀ i, b < i → (ownL rs i = r ↔ exL ns x.root < i ∧ i ≤ x.root)
  | [], _, _, _, r, x, h => by simp at h
  | y :: t, b, hb, ho, 0, x, h => by
    obtain ⟨h1, h2, h3, h4⟩ := ordR_cons ho
    obtain rfl : y = x := by simpa using h
    refine ⟨⟨by omega, by omega, h2⟩, fun i hi => ?_⟩
    by_cases hy : y.root < i
    · rw [ownL_cons_yes hy]; omega
    · rw [ownL_cons_no hy]; omega
  | y :: t, b, hb, ho, r + 1, x, h => by
    obtain ⟨h1, h2, h3, h4⟩ := ordR_cons ho
    have hx : t[r]? = some x := by simpa using h
    obtain ⟨⟨g1, g2, g3⟩, g4⟩ := own_span t y.root (by omega) h4 r x hx
    refine ⟨⟨by omega, g2, g3⟩, fun i hi => ?_⟩
    by_cases hy : y.root < i
    · rw [ownL_cons_yes hy, ← g4 i hy]; omega
    · rw [ownL_cons_no hy]; omega
theorem NodesAt.part {w : World} {xa : Option Addr} {xc : Nat} {xs : List PN} (h : NodesAt w (.slice xa xs.length xc) xs) (f i : Nat) (hf : f ≤ i) (hi : i < xs.length) :
    ∃ b off, xa = some ⟨b, off, none⟩ ∧ NodesAt w (.slice (some ⟨b, off + f * 7, none⟩) (i + 1 - f) (xc - f)) ((xs.drop f).take (i + 1 - f)) := by
  obtain ⟨hl, a, c, he, hx⟩ := h
  injection he with h1 h2 h3
  subst h1
  rcases hx with h | ⟨b, off, e, hx⟩
  · rw [h] at hi; simp at hi
  · have hlen : ((xs.drop f).take (i + 1 - f)).length = i + 1 - f := by rw [List.length_take, List.length_drop]; omega
    refine ⟨b, off, e, by omega, some ⟨b, off + f * 7, none⟩, xc - f, by rw [hlen], .inr ⟨b, off + f * 7, rfl, fun j n hn => ?_⟩⟩
    have hj : j < i + 1 - f := by have := (List.getElem?_eq_some_iff.1 hn).1; omega
    rw [List.getElem?_take_of_lt hj, List.getElem?_drop] at hn
    have := hx (f + j) n hn
    rw [show off + f * 7 + j * 7 = off + (f + j) * 7 by omega]
    exact this
end
section
open Go.RowKit
def BolAt (m : Nat → Bool) (n B : Nat) (w : World) : Prop := ∃ cs, Bl w B 4 cs ∧ ∀ j, j < n → cs[j]? = some (.bool (m j))
theorem Bl.ne {w : World} {b c : Nat} {t u : TypeId} {xs ys : Array Value} (h : Bl w b t xs) (k : Bl w c u ys) (hn : t ≠ u) : b ≠ c := by
  rintro rfl
  unfold Bl at h k
  rw [h] at k
  injection k with k
  injection k with _ k _
  exact hn k
theorem BolAt.below {m : Nat → Bool} {n B : Nat} {w w' : World} (h : BolAt m n B w) (hb : Below w.heap.size w w') : BolAt m n B w' := by
  obtain ⟨cs, h1, h2⟩ := h; exact ⟨cs, h1.below hb, h2⟩
theorem BolAt.cell {m : Nat → Bool} {n B j : Nat} {w : World} (h : BolAt m n B w) (hj : j < n) : w.cell? ⟨B, j, none⟩ = some (.bool (m j)) := by
  obtain ⟨cs, h1, h2⟩ := h; exact h1.cell (h2 j hj)
theorem BolAt.free {m : Nat → Bool} {n B : Nat} {w : World} (h : BolAt m n B w) (o : Nat) : w.frozen? ⟨B, o, none⟩ = false := by
  obtain ⟨cs, h1, h2⟩ := h; exact h1.free o
theorem BolAt.put {m : Nat → Bool} {n B k : Nat} {w : World} (h : BolAt m n B w) (hk : k < n) : BolAt (ins m k) n B (w.setCell ⟨B, k, none⟩ (.bool true)) := by
  obtain ⟨cs, h1, h2⟩ := h
  refine ⟨_, h1.set' _, fun j hj => ?_⟩
  rw [Array.getElem?_setIfInBounds]
  unfold ins
  by_cases e : k = j
  · subst e
    have := (Array.getElem?_eq_some_iff.1 (h2 k hk)).1
    rw [if_pos rfl, if_pos this]; simp
  · rw [if_neg e, h2 j hj]
    have : (j == k) = false := by simp; omega
    rw [this, Bool.or_false]
theorem BolAt.congr {m m' : Nat → Bool} {n B : Nat} {w : World} (h : BolAt m n B w) (e : ∀ j, j < n → m j = m' j) : BolAt m' n B w := by
  obtain ⟨cs, h1, h2⟩ := h; exact ⟨cs, h1, fun j hj => by rw [← e j hj]; exact h2 j hj⟩
section
variable {G M B Q n : Nat} {rv nv : Value} {m : Nat → Bool} {l : List Int} {w W W' : World}
end
end
section
open Go.RowKit
/- 1. What holds of marks and queue. -/
def Sound (E : Nat → Nat → Prop) (r0 n : Nat) (m : Nat → Bool) (l : List Int) : Prop :=
  m r0 = true ∧ (∀ j, j < n → m j = true → Rch E r0 j) ∧ (∀ x, x ∈ l → ∃ j : Nat, x = (j : Int) ∧ j < n ∧ m j = true) ∧ l.length ≤ cnt m n
def OutI (E : Nat → Nat → Prop) (r : Int) (n : Nat) (m : Nat → Bool) (l : List Int) : Prop :=
  (¬ (0 ≤ r ∧ r < n) ∧ l = [] ∧ ∀ j, j < n → m j = false) ∨ (0 ≤ r ∧ r < n ∧ Sound E r.toNat n m l ∧ ∀ j, j < n → m j = true → (j : Int) ∈ l ∨ ∀ b, E j b → m b = true)
def InI (E : Nat → Nat → Prop) (r0 n a : Nat) (P : Nat → Prop) (m : Nat → Bool) (l : List Int) : Prop :=
  Sound E r0 n m l ∧ (∀ j, j < n → m j = true → (j : Int) ∈ l ∨ j = a ∨ ∀ b, E j b → m b = true) ∧ m a = true ∧ ∀ b, P b → m b = true
def left7 (n : Nat) (m : Nat → Bool) (l : List Int) : Nat := 2 * (n - cnt m n) + l.length
theorem ins_keep {m : Nat → Bool} {k j : Nat} (h : m j = true) : ins m k j = true := by unfold ins; rw [h]; rfl
theorem ins_here (m : Nat → Bool) (k : Nat) : ins m k k = true := by unfold ins; simp
theorem ins_inv {m : Nat → Bool} {k j : Nat} (h : ins m k j = true) : m j = true ∨ j = k := by
  unfold ins at h; rw [Bool.or_eq_true] at h
  rcases h with h | h
  · exact .inl h
  · exact .inr (by simpa using h)
theorem cnt_ins {m : Nat → Bool} {k n : Nat} (hk : k < n) (hm : m k = false) : cnt m n < cnt (ins m k) n := cnt_more n (fun _ _ h => ins_keep h) ⟨k, hk, hm, ins_here m k⟩
theorem Sound.add {E : Nat → Nat → Prop} {r0 n k : Nat} {m : Nat → Bool} {l l' : List Int} (h : Sound E r0 n m l) (hk : k < n) (hm : m k = false) (hr : Rch E r0 k) (hp : l'.Perm (l ++ [(k : Int)])) : Sound E r0 n (ins m k) l' ∧ left7 n (ins m k) l' ≤ left7 n m l := by
  obtain ⟨h1, h2, h3, h4⟩ := h
  have hc := cnt_ins hk hm
  have hl := hp.length_eq
  rw [List.length_append] at hl
  have hle := cnt_le (ins m k) n
  refine ⟨⟨ins_keep h1, fun j hj hi => ?_, fun x hx => ?_, by simp at hl; omega⟩, by unfold left7; simp at hl; omega⟩
  · rcases ins_inv hi with h | rfl
    · exact h2 j hj h
    · exact hr
  · rcases List.mem_append.1 (hp.mem_iff.1 hx) with hx | hx
    · obtain ⟨j, e, hj, hm⟩ := h3 x hx
      exact ⟨j, e, hj, ins_keep hm⟩
    · exact ⟨k, by simpa using hx, hk, ins_here m k⟩
theorem InI.add {E : Nat → Nat → Prop} {r0 n a k : Nat} {P P' : Nat → Prop} {m : Nat → Bool} {l l' : List Int} (h : InI E r0 n a P m l) (ha : a < n) (hk : k < n) (he : E a k) (hm : m k = false) (hp : l'.Perm (l ++ [(k : Int)])) (hP : ∀ b, P' b → P b ∨ b = k) : InI E r0 n a P' (ins m k) l' ∧ left7 n (ins m k) l' ≤ left7 n m l := by
  obtain ⟨h1, h2, h3, h4⟩ := h
  have hs := h1.add hk hm (.call (h1.2.1 a ha h3) he) hp
  refine ⟨⟨hs.1, fun j hj hi => ?_, ins_keep h3, fun b hb => ?_⟩, hs.2⟩
  · rcases ins_inv hi with h | rfl
    · rcases h2 j hj h with h | h | h
      · exact .inl (hp.mem_iff.2 (List.mem_append_left _ h))
      · exact .inr (.inl h)
      · exact .inr (.inr fun b hb => ins_keep (h b hb))
    · exact .inl (hp.mem_iff.2 (List.mem_append_right _ (by simp)))
  · rcases hP b hb with h | rfl
    · exact ins_keep (h4 b h)
    · exact ins_here m b
theorem InI.same {E : Nat → Nat → Prop} {r0 n a : Nat} {P P' : Nat → Prop} {m : Nat → Bool} {l : List Int} (h : InI E r0 n a P m l) (hP : ∀ b, P' b → P b ∨ m b = true) : InI E r0 n a P' m l :=
  ⟨h.1, h.2.1, h.2.2.1, fun b hb => by rcases hP b hb with h' | h'; exact h.2.2.2 b h'; exact h'⟩
theorem OutI.pop {E : Nat → Nat → Prop} {r : Int} {n : Nat} {m : Nat → Bool} {l l1 : List Int} {x : Int} (h : OutI E r n m l) (hp : (l1 ++ [x]).Perm l) : ∃ a : Nat, x = (a : Int) ∧ a < n ∧ InI E r.toNat n a (fun _ => False) m l1 ∧ left7 n m l1 < left7 n m l := by
  have hl := hp.length_eq
  rw [List.length_append] at hl
  simp at hl
  rcases h with ⟨-, h, -⟩ | ⟨-, -, ⟨h1, h2, h3, h4⟩, h5⟩
  · rw [h] at hl; simp at hl
  · obtain ⟨a, e, ha, hm⟩ := h3 x (hp.mem_iff.1 (List.mem_append_right _ (by simp)))
    refine ⟨a, e, ha, ⟨⟨h1, h2, fun y hy => h3 y (hp.mem_iff.1 (List.mem_append_left _ hy)), by omega⟩, fun j hj hmj => ?_, hm, fun _ h => h.elim⟩, by unfold left7; omega⟩
    rcases h5 j hj hmj with h | h
    · rcases List.mem_append.1 (hp.mem_iff.2 h) with h | h
      · exact .inl h
      · have : (j : Int) = x := by simpa using h
        exact .inr (.inl (by omega))
    · exact .inr (.inr h)
theorem InI.out {E : Nat → Nat → Prop} {r : Int} {n a : Nat} {P : Nat → Prop} {m : Nat → Bool} {l : List Int} (h : InI E r.toNat n a P m l) (h0 : 0 ≤ r) (h1 : r < n) (hP : ∀ b, E a b → P b) : OutI E r n m l := by
  obtain ⟨g1, g2, g3, g4⟩ := h
  refine .inr ⟨h0, h1, g1, fun j hj hm => ?_⟩
  rcases g2 j hj hm with h | rfl | h
  · exact .inl h
  · exact .inr fun b hb => g4 b (hP b hb)
  · exact .inr h
theorem OutI.done {rs : List PR} {ns : List PN} {r : Int} {m : Nat → Bool} (h : OutI (callE rs ns) r rs.length m []) (hE : ∀ a b, callE rs ns a b → b < rs.length) : memb m rs.length = reachL rs ns r := by
  unfold reachL
  rcases h with ⟨h1, -, h2⟩ | ⟨h1, h2, ⟨h3, h4, -, -⟩, h5⟩
  · rw [if_neg h1]
    have : memb m rs.length = memb (fun _ => false) rs.length := memb_congr h2
    rw [this]; unfold memb; simp
  · rw [if_pos ⟨h1, h2⟩]
    refine memb_congr (closed_is h3 (fun a b ha hm he => ?_) hE (by omega) h4)
    rcases h5 a ha hm with h | h
    · simp at h
    · exact h b he
/- 2. The walk. -/
/-- The nodes of a rule: where they lie, and what a call in them says. -/
def Done (ns : List PN) (f k : Nat) (b : Nat) : Prop := ∃ (t : Nat) (n : PN), t < k ∧ ns[f + t]? = some n ∧ n.op = 2 ∧ n.rule = (b : Int)
theorem Done.succ {ns : List PN} {f k b : Nat} {n : PN} (hn : ns[f + k]? = some n) (h : Done ns f (k + 1) b) : Done ns f k b ∨ (n.op = 2 ∧ n.rule = (b : Int)) := by
  obtain ⟨t, n', h1, h2, h3, h4⟩ := h
  by_cases e : t = k
  · subst e
    rw [hn] at h2
    obtain rfl := Option.some.inj h2
    exact .inr ⟨h3, h4⟩
  · exact .inl ⟨t, n', by omega, h2, h3, h4⟩
theorem BolAt.grown {m : Nat → Bool} {n B base k : Nat} {v : Value} {xs : List Value} {w w1 w' : World} (h : BolAt m n B w1) (ho : w.ownsRow base 3 1 v k xs) (hb : Below w.heap.size w w1) (hg : w1.grownBy w' v.ownBlock) : BolAt m n B w' := by
  obtain ⟨cs, h1, h2⟩ := h
  exact ⟨cs, h1.grown hg (fun g e => by obtain ⟨c, fz, hc⟩ := Lib.ownsRow_kind (ownsRow_grown ho hb) g e; exact ⟨c, 3, fz, hc, by decide⟩), h2⟩
theorem OutI.len {E : Nat → Nat → Prop} {r : Int} {n : Nat} {m : Nat → Bool} {l : List Int} (h : OutI E r n m l) : l.length ≤ n := by
  have := cnt_le m n
  rcases h with ⟨-, h, -⟩ | ⟨-, -, ⟨-, -, -, h⟩, -⟩
  · rw [h]; exact Nat.zero_le _
  · omega
theorem OutI.range {E : Nat → Nat → Prop} {r : Int} {n : Nat} {m : Nat → Bool} {l : List Int} (h : OutI E r n m l) (hl : 0 < l.length) : 0 ≤ r ∧ r < n := by
  rcases h with ⟨-, h, -⟩ | ⟨h1, h2, -⟩
  · rw [h] at hl; exact absurd hl (Nat.lt_irrefl _)
  · exact ⟨h1, h2⟩
end
section
open Go.RowKit
/-- What the reference keeps in memory. -/
def RK (G B n : Nat) (rv nv : Value) (m : Nat → Bool) (w W : World) : Prop := Below w.heap.size w W ∧ Bl W G 25 #[rv, nv] ∧ BolAt m n B W ∧ w.heap.size ≤ B
section
variable {G B n : Nat} {rv nv : Value} {m : Nat → Bool} {w W W' : World}
theorem RK.lo (h : RK G B n rv nv m w W) : Below w.heap.size w W := h.1
theorem RK.g (h : RK G B n rv nv m w W) : Bl W G 25 #[rv, nv] := h.2.1
theorem RK.b (h : RK G B n rv nv m w W) : BolAt m n B W := h.2.2.1
theorem RK.below (h : RK G B n rv nv m w W) (hb : Below W.heap.size W W') : RK G B n rv nv m w W' := ⟨h.1.trans (hb.mono h.1.size), h.g.below hb, h.b.below hb, h.2.2.2⟩
theorem RK.put {k : Nat} (h : RK G B n rv nv m w W) (hk : k < n) : RK G B n rv nv (ins m k) w (W.setCell ⟨B, k, none⟩ (.bool true)) := by
  obtain ⟨h1, h2, h3, h4⟩ := h
  obtain ⟨cs, hB, -⟩ := id h3
  exact ⟨h1.setCell (p := ⟨B, k, none⟩) h4 _, h2.other (h2.ne hB (by decide)) _, h3.put hk, h4⟩
end
/-- The marks within a round: nothing that is not reached, all marks of before, and what the nodes so far say. -/
def InK (rs : List PR) (ns : List PN) (r0 : Nat) (m0 : Nat → Bool) (i : Nat) (m : Nat → Bool) : Prop :=
  (∀ j, j < rs.length → m j = true → Rch (callE rs ns) r0 j) ∧ (∀ j, j < rs.length → m0 j = true → m j = true) ∧
    ∀ (t : Nat) (n : PN) (b : Nat), t < i → ns[t]? = some n → n.op = 2 → m0 (ownL rs (t : Int)) = true → n.rule = (b : Int) → m b = true
theorem InK.mark {rs : List PR} {ns : List PN} {r0 i k : Nat} {m0 m : Nat → Bool} {n : PN} (h : InK rs ns r0 m0 i m) (hn : ns[i]? = some n) (ho : n.op = 2) (hl : ownL rs (i : Int) < rs.length) (hm : m (ownL rs (i : Int)) = true) (hk : n.rule = (k : Int)) : InK rs ns r0 m0 (i + 1) (ins m k) := by
  obtain ⟨h1, h2, h3⟩ := h
  refine ⟨fun j hj hi => ?_, fun j hj h => ins_keep (h2 j hj h), fun t n' b ht hn' ho' hm' hb => ?_⟩
  · rcases ins_inv hi with h | rfl
    · exact h1 j hj h
    · exact .call (h1 _ hl hm) ⟨i, n, hn, ho, rfl, hk⟩
  · by_cases e : t = i
    · subst e
      rw [hn] at hn'
      obtain rfl := Option.some.inj hn'
      have : b = k := by omega
      subst this
      exact ins_here m b
    · exact ins_keep (h3 t n' b (by omega) hn' ho' hm' hb)
/-- The marks between two rounds. -/
def OutK (rs : List PR) (ns : List PN) (r0 k : Nat) (m : Nat → Bool) : Prop :=
  m r0 = true ∧ (∀ j, j < rs.length → m j = true → Rch (callE rs ns) r0 j) ∧ ((∀ a b, a < rs.length → m a = true → callE rs ns a b → m b = true) ∨ k < cnt m rs.length)
theorem OutK.next {rs : List PR} {ns : List PN} {r0 k : Nat} {m m' : Nat → Bool} (h : OutK rs ns r0 k m) (hE : ∀ a b, callE rs ns a b → b < rs.length) (hr : r0 < rs.length) (hi : InK rs ns r0 m ns.length m') : OutK rs ns r0 (k + 1) m' := by
  obtain ⟨h1, h2, h3⟩ := h
  obtain ⟨g1, g2, g3⟩ := hi
  exact ⟨g2 r0 hr h1, g1, round_more h1 hE hr g1 g2 (fun a b _ hm ⟨t, n, e1, e2, e3, e4⟩ => g3 t n b (List.getElem?_eq_some_iff.1 e1).1 e1 e2 (by rw [e3]; exact hm) e4) h3⟩
theorem OutK.done {rs : List PR} {ns : List PN} {r0 : Nat} {r : Int} {m : Nat → Bool} (h : OutK rs ns r0 rs.length m) (hE : ∀ a b, callE rs ns a b → b < rs.length) (hr : r0 < rs.length) (e : r = (r0 : Int)) : memb m rs.length = reachL rs ns r := by
  subst e
  obtain ⟨h1, h2, h3⟩ := h
  unfold reachL
  rw [if_pos ⟨by omega, by omega⟩, show ((r0 : Int)).toNat = r0 by omega]
  exact memb_congr (closed_is h1 (round_all h3) hE hr h2)
theorem OutK.first {rs : List PR} {ns : List PN} {r0 : Nat} (hr : r0 < rs.length) : OutK rs ns r0 0 (ins (fun _ => false) r0) := by
  have hc := cnt_ins (m := fun _ => false) hr rfl
  refine ⟨ins_here _ _, fun j hj hm => ?_, .inr (by omega)⟩
  rcases ins_inv hm with h | rfl
  · cases h
  · exact .here
end
end Go.Proofs.Ytnfjbjmdempafaa
