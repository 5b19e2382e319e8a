/- Rows of cells in memory, items and rules with items in them, blocks, and what a call leaves as it was that writes into its own blocks of two types. -/
import Derived.Test.YtklimoepkifnhaaGramRCopy
import Derived.Test.YtklimoepkifnhaaBuildMath
namespace Go.Proofs.Ytklimoepkifnhaa
open Go.RowKit
/-- v is a slice of n elements that holds the cells cs. -/
def CellsAt (w : World) (v : Value) (n : Nat) (cs : List Value) : Prop := ∃ a cap, v = .slice a n cap ∧ n ≤ cap ∧ (n = 0 ∨ ∃ b off, a = some ⟨b, off, none⟩ ∧ ∀ j u, cs[j]? = some u → w.cell? ⟨b, off + j, none⟩ = some u)
theorem CellsAt.kept {k : Nat} {w w' : World} {v : Value} {n : Nat} {cs : List Value} (h : CellsAt w v n cs) (hb : Below k w w') (hk : w.heap.size ≤ k) : CellsAt w' v n cs := by
  obtain ⟨a, cap, rfl, hcap, h⟩ := h
  rcases h with h | ⟨b, off, rfl, hc⟩
  · exact ⟨a, cap, rfl, hcap, .inl h⟩
  · exact ⟨_, cap, rfl, hcap, .inr ⟨b, off, rfl, fun i c hi => by have := lt_of_cell (hc i c hi); rw [(bcell hb).1 _ _ (by omega)]; exact hc i c hi⟩⟩
theorem CellsAt.of_own {w : World} {base : Nat} {e : TypeId} {size : Nat} {v : Value} {n : Nat} {cs : List Value} (h : w.ownsRow base e size v n cs) : CellsAt w v n cs := by
  have h' := h
  rcases h.2 with ⟨rfl, h0⟩ | ⟨g, cap, cur, rfl, -, -, hcap, -⟩
  · exact ⟨none, 0, by rw [h0], by omega, .inl h0⟩
  · refine ⟨_, cap, rfl, hcap, .inr ⟨g, 0, rfl, fun i r hr => ?_⟩⟩
    have := h'.cells rfl i r hr
    rw [Addr.add_lit] at this; exact this
theorem CellsAt.src {w : World} {a : Option Addr} {n c : Nat} {cs : List Value} (h : CellsAt w (.slice a n c) n cs) : n = 0 ∨ ∃ b off, a = some ⟨b, off, none⟩ ∧ ∀ j u, cs[j]? = some u → w.cell? ⟨b, off + j, none⟩ = some u := by
  obtain ⟨a', c', e, -, h⟩ := h
  injection e with e1 e2 e3
  subst e1
  exact h
theorem CellsAt.cap {w : World} {a : Option Addr} {n m c : Nat} {cs : List Value} (h : CellsAt w (.slice a m c) n cs) : n ≤ c := by
  obtain ⟨a', c', e, h, -⟩ := h
  injection e with e1 e2 e3
  omega
def itemC (x : PI) : List Value := [.int .i64 x.op, .int .i64 x.kids, .int .i64 x.rule, .int .u64 x.s0, .int .u64 x.s1, .int .u64 x.s2, .int .u64 x.s3]
def itemV (x : PI) : Value := .agg #[.int .i64 x.op, .int .i64 x.kids, .int .i64 x.rule, .int .u64 x.s0, .int .u64 x.s1, .int .u64 x.s2, .int .u64 x.s3]
def itemsC (l : List PI) : List Value := l.flatMap itemC
theorem itemsC_length (l : List PI) : (itemsC l).length = l.length * 7 := flat_length itemC 7 (fun _ => rfl) l
theorem itemsC_at {l : List PI} {i j : Nat} {x : PI} (h : l[i]? = some x) (hj : j < 7) : (itemsC l)[i * 7 + j]? = (itemC x)[j]? := flat_at itemC 7 (fun _ => rfl) l i x j h hj
theorem itemsC_append (l m : List PI) : itemsC (l ++ m) = itemsC l ++ itemsC m := by unfold itemsC; rw [List.flatMap_append]
theorem itemsC_one_cell (l : List PI) : ∀ u ∈ itemsC l, u.oneCell' = true := by
  intro u hu
  unfold itemsC at hu
  obtain ⟨r, -, hr⟩ := List.mem_flatMap.1 hu
  simp [itemC] at hr
  rcases hr with rfl | rfl | rfl | rfl | rfl | rfl | rfl <;> rfl
def ItemsAt (w : World) (v : Value) (l : List PI) : Prop := l.length ≤ maxLen ∧ CellsAt w v l.length (itemsC l)
theorem ItemsAt.kept {k : Nat} {w w' : World} {v : Value} {l : List PI} (h : ItemsAt w v l) (hb : Below k w w') (hk : w.heap.size ≤ k) : ItemsAt w' v l := ⟨h.1, h.2.kept hb hk⟩
/-- The cells of one item. -/
def ItemAt (w : World) (b o : Nat) (x : PI) : Prop := w.cell? ⟨b, o, none⟩ = some (.int .i64 x.op) ∧ w.cell? ⟨b, o + 1, none⟩ = some (.int .i64 x.kids) ∧ w.cell? ⟨b, o + 2, none⟩ = some (.int .i64 x.rule) ∧ w.cell? ⟨b, o + 3, none⟩ = some (.int .u64 x.s0) ∧ w.cell? ⟨b, o + 4, none⟩ = some (.int .u64 x.s1) ∧ w.cell? ⟨b, o + 5, none⟩ = some (.int .u64 x.s2) ∧ w.cell? ⟨b, o + 6, none⟩ = some (.int .u64 x.s3)
theorem ItemsAt.at {w : World} {a : Option Addr} {n c : Nat} {l : List PI} {i : Nat} {x : PI} (h : ItemsAt w (.slice a n c) l) (hx : l[i]? = some x) : ∃ b off, a = some ⟨b, off, none⟩ ∧ ItemAt w b (off + i * 7) x := by
  obtain ⟨-, a', c', e, -, h⟩ := h
  injection e with e1 e2 e3
  subst e1
  rcases h with h | ⟨b, off, rfl, hc⟩
  · have := (List.getElem?_eq_some_iff.1 hx).1; omega
  · refine ⟨b, off, rfl, ?_⟩
    have hh : ∀ j u, j < 7 → (itemC x)[j]? = some u → w.cell? ⟨b, off + i * 7 + j, none⟩ = some u := fun j u hj hu => by
      rw [Nat.add_assoc]; exact hc _ _ (by rw [itemsC_at hx hj]; exact hu)
    exact ⟨hh 0 _ (by decide) rfl, hh 1 _ (by decide) rfl, hh 2 _ (by decide) rfl, hh 3 _ (by decide) rfl, hh 4 _ (by decide) rfl, hh 5 _ (by decide) rfl, hh 6 _ (by decide) rfl⟩
theorem ItemsAt.slice {w : World} {v : Value} {l : List PI} (h : ItemsAt w v l) : ∃ a c, v = .slice a l.length c := by
  obtain ⟨-, a, c, e, -⟩ := h; exact ⟨a, c, e⟩
theorem ItemsAt.cap {w : World} {a : Option Addr} {n c : Nat} {l : List PI} (h : ItemsAt w (.slice a n c) l) : l.length ≤ c := h.2.cap
theorem ItemAt.kept {k : Nat} {w w' : World} {b o : Nat} {x : PI} (h : ItemAt w b o x) (hb : Below k w w') (hk : w.heap.size ≤ k) : ItemAt w' b o x := by
  obtain ⟨h0, h1, h2, h3, h4, h5, h6⟩ := h
  have hl := lt_of_cell h0
  have hc := fun o => (bcell hb).1 b o (by omega)
  exact ⟨by rw [hc]; exact h0, by rw [hc]; exact h1, by rw [hc]; exact h2, by rw [hc]; exact h3, by rw [hc]; exact h4, by rw [hc]; exact h5, by rw [hc]; exact h6⟩
/-- The items behind the first ones. -/
theorem ItemsAt.drop {w : World} {b off c : Nat} {n k : Nat} {l : List PI} (h : ItemsAt w (.slice (some ⟨b, off, none⟩) n c) l) (hk : k ≤ l.length) {c' : Nat} (hc' : l.length - k ≤ c') : ItemsAt w (.slice (some ⟨b, off + k * 7, none⟩) (l.length - k) c') (l.drop k) := by
  obtain ⟨hm, a', c1, e, -, h⟩ := h
  injection e with e1 e2 e3
  subst e1
  refine ⟨by rw [List.length_drop]; omega, _, c', by rw [List.length_drop], by rw [List.length_drop]; exact hc', ?_⟩
  rcases h with h | ⟨b', off', e, hc⟩
  · left; rw [List.length_drop]; omega
  · injection e with e
    injection e with e1 e2
    subst e1 e2
    right
    refine ⟨b, off + k * 7, rfl, fun j u hu => ?_⟩
    rw [Nat.add_assoc]
    refine hc _ _ ?_
    have : itemsC l = itemsC (l.take k) ++ itemsC (l.drop k) := by rw [← itemsC_append, List.take_append_drop]
    rw [this, List.getElem?_append_right (by rw [itemsC_length, List.length_take]; have : min k l.length = k := by omega
                                             rw [this]; omega), itemsC_length, List.length_take, show min k l.length = k by omega, Nat.add_sub_cancel_left]
    exact hu
/-- A rule with items: its cells, given the value of the items. -/
def ruleQ (p : PQ × Value) : List Value := [.string p.1.name, p.2]
def rulesQ (ps : List (PQ × Value)) : List Value := ps.flatMap ruleQ
theorem rulesQ_length (ps : List (PQ × Value)) : (rulesQ ps).length = ps.length * 2 := flat_length ruleQ 2 (fun _ => rfl) ps
theorem rulesQ_at {ps : List (PQ × Value)} {i j : Nat} {p : PQ × Value} (h : ps[i]? = some p) (hj : j < 2) : (rulesQ ps)[i * 2 + j]? = (ruleQ p)[j]? := flat_at ruleQ 2 (fun _ => rfl) ps i p j h hj
theorem rulesQ_append (l m : List (PQ × Value)) : rulesQ (l ++ m) = rulesQ l ++ rulesQ m := by unfold rulesQ; rw [List.flatMap_append]
/-- v is a slice of rules with items. -/
def QsAt (w : World) (v : Value) (l : List PQ) : Prop := l.length ≤ maxLen ∧ ∃ vs : List Value, vs.length = l.length ∧ CellsAt w v l.length (rulesQ (l.zip vs)) ∧ ∀ (j : Nat) (q : PQ) (u : Value), l[j]? = some q → vs[j]? = some u → ItemsAt w u q.items
theorem QsAt.kept {k : Nat} {w w' : World} {v : Value} {l : List PQ} (h : QsAt w v l) (hb : Below k w w') (hk : w.heap.size ≤ k) : QsAt w' v l := by
  obtain ⟨h1, vs, h2, h3, h4⟩ := h
  exact ⟨h1, vs, h2, h3.kept hb hk, fun j q u a b => (h4 j q u a b).kept hb hk⟩
theorem QsAt.slice {w : World} {v : Value} {l : List PQ} (h : QsAt w v l) : ∃ a c, v = .slice a l.length c := by
  obtain ⟨-, vs, -, ⟨a, c, e, -⟩, -⟩ := h; exact ⟨a, c, e⟩
theorem QsAt.at {w : World} {a : Option Addr} {n c : Nat} {l : List PQ} {i : Nat} {q : PQ} (h : QsAt w (.slice a n c) l) (hx : l[i]? = some q) : ∃ b off ia ic, a = some ⟨b, off, none⟩ ∧ w.cell? ⟨b, off + i * 2, none⟩ = some (.string q.name) ∧ w.cell? ⟨b, off + i * 2 + 1, none⟩ = some (.slice ia q.items.length ic) ∧ ItemsAt w (.slice ia q.items.length ic) q.items := by
  obtain ⟨-, vs, h2, ⟨a', c', e, -, h⟩, h4⟩ := h
  injection e with e1 e2 e3
  subst e1
  have hil := (List.getElem?_eq_some_iff.1 hx).1
  obtain ⟨u, hu⟩ : ∃ u, vs[i]? = some u := ⟨_, List.getElem?_eq_getElem (by omega)⟩
  have hz : (l.zip vs)[i]? = some (q, u) := by rw [List.getElem?_zip_eq_some]; exact ⟨hx, hu⟩
  have hi := h4 i q u hx hu
  obtain ⟨ia, ic, rfl⟩ := hi.slice
  rcases h with h | ⟨b, off, rfl, hc⟩
  · omega
  · refine ⟨b, off, ia, ic, rfl, ?_, ?_, hi⟩
    · have := hc (i * 2 + 0) _ (rulesQ_at hz (by decide)); exact this
    · rw [Nat.add_assoc]; exact hc (i * 2 + 1) _ (rulesQ_at hz (by decide))
/-- Block b of memory: its cells and their type. -/
def Bl (w : World) (b : Nat) (t : TypeId) (cs : Array Value) : Prop := w.heap[b]? = some (.cells cs t (0, 0))
theorem Bl.lt {w : World} {b : Nat} {t : TypeId} {cs : Array Value} (h : Bl w b t cs) : b < w.heap.size := (Array.getElem?_eq_some_iff.1 h).1
theorem Bl.cell {w : World} {b : Nat} {t : TypeId} {cs : Array Value} (h : Bl w b t cs) {o : Nat} {u : Value} (ho : cs[o]? = some u) : w.cell? ⟨b, o, none⟩ = some u := cells_at h ho
theorem Bl.free {w : World} {b : Nat} {t : TypeId} {cs : Array Value} (h : Bl w b t cs) (o : Nat) : w.frozen? ⟨b, o, none⟩ = false := cells_fz h o
theorem Bl.below {w w' : World} {b : Nat} {t : TypeId} {cs : Array Value} (h : Bl w b t cs) (hb : Below w.heap.size w w') : Bl w' b t cs := by
  unfold Bl; rw [hb.block b h.lt]; exact h
theorem Bl.new (w : World) (t : TypeId) (cs : Array Value) : Bl (w.alloc (.cells cs t)) w.heap.size t cs := heap_alloc_new w _
theorem Bl.set {w : World} {b : Nat} {t : TypeId} {v : Value} (h : Bl w b t #[v]) (u : Value) : Bl (w.setCell ⟨b, 0, none⟩ u) b t #[u] := heap_setCell_same w b 0 _ _ u h
theorem Bl.other {w : World} {b c o : Nat} {t : TypeId} {cs : Array Value} (h : Bl w b t cs) (hc : b ≠ c) (u : Value) : Bl (w.setCell ⟨c, o, none⟩ u) b t cs := by
  unfold Bl; rw [heap_setCell_other _ _ _ _ hc]; exact h
theorem Bl.grown {w w' : World} {b : Nat} {t : TypeId} {cs : Array Value} {r : Option Nat} (h : Bl w b t cs) (hg : w.grownBy w' r) (hr : ∀ g, r = some g → ∃ c t' fz, w.heap[g]? = some (.cells c t' fz) ∧ t ≠ t') : Bl w' b t cs := by
  unfold Bl
  rw [hg.block b h.lt (fun e => by
    obtain ⟨c, t', fz, h1, h2⟩ := hr b e.symm
    unfold Bl at h
    rw [h] at h1
    injection h1 with h1
    injection h1 with _ h1
    exact h2 h1)]
  exact h
/-- What was in memory stays, but for the blocks xb and yb and for blocks of the type t1 from block base on. -/
structure Kp (base xb yb : Nat) (t1 : TypeId) (w w' : World) : Prop where
  os : w'.os = w.os
  tape : w'.tape = w.tape
  output : w'.output = w.output
  size : w.heap.size ≤ w'.heap.size
  block : ∀ k, k < w.heap.size → k ≠ xb → k ≠ yb → (k < base ∨ ∀ c t fz, w.heap[k]? = some (.cells c t fz) → t ≠ t1) → w'.heap[k]? = w.heap[k]?
section
variable {base xb yb : Nat} {t1 : TypeId} {w w1 w2 w' : World}
theorem Kp.refl (w : World) : Kp base xb yb t1 w w := ⟨rfl, rfl, rfl, Nat.le_refl _, fun _ _ _ _ _ => rfl⟩
theorem Kp.trans (h : Kp base xb yb t1 w w1) (k : Kp base xb yb t1 w1 w2) : Kp base xb yb t1 w w2 :=
  ⟨k.os.trans h.os, k.tape.trans h.tape, k.output.trans h.output, Nat.le_trans h.size k.size, fun i hi hx hy hc => by
    have e := h.block i hi hx hy hc
    rw [k.block i (Nat.lt_of_lt_of_le hi h.size) hx hy (by rw [e]; exact hc), e]⟩
theorem Kp.of_below (h : Below w.heap.size w w') : Kp base xb yb t1 w w' := ⟨h.os, h.tape, h.output, h.size, fun k hk _ _ _ => h.block k hk⟩
theorem Kp.below (h : Kp base xb yb t1 w w') (hx : base ≤ xb) (hy : base ≤ yb) (hb : base ≤ w.heap.size) : Below base w w' :=
  ⟨h.os, h.tape, h.output, h.size, fun k hk => h.block k (by omega) (by omega) (by omega) (.inl hk)⟩
theorem Kp.fresh (h : Kp base xb yb t1 w w') (hx : w.heap.size ≤ xb) (hy : w.heap.size ≤ yb) (xc yc : Nat) : Kp base xc yc t1 w w' :=
  ⟨h.os, h.tape, h.output, h.size, fun k hk _ _ hc => h.block k hk (by omega) (by omega) hc⟩
theorem Kp.set {b o : Nat} {c : Array Value} {t : TypeId} {fz : Nat × Nat} (h : w.heap[b]? = some (.cells c t fz)) (hx : b = xb ∨ b = yb ∨ (base ≤ b ∧ t = t1)) (v : Value) : Kp base xb yb t1 w (w.setCell ⟨b, o, none⟩ v) :=
  ⟨rfl, rfl, rfl, by simp [World.setCell], fun k _ hk hy hc => heap_setCell_other _ _ _ _ (by
    rintro rfl
    rcases hx with e | e | ⟨h1, h2⟩
    · exact hk e
    · exact hy e
    · rcases hc with hc | hc
      · omega
      · exact hc _ _ _ h h2)⟩
theorem Kp.grown {r : Option Nat} (hg : w.grownBy w' r) (hr : ∀ g, r = some g → base ≤ g ∧ ∃ c fz, w.heap[g]? = some (.cells c t1 fz)) : Kp base xb yb t1 w w' :=
  ⟨hg.os, hg.tape, hg.output, hg.size, fun k hk _ _ hc => hg.block k hk (by
    intro e
    obtain ⟨h1, c, fz, h2⟩ := hr k e.symm
    rcases hc with hc | hc
    · omega
    · exact hc _ _ _ h2 rfl)⟩
theorem Kp.own (h : Kp base xb yb t1 w w') {b' : Nat} {e : TypeId} {size n : Nat} {v : Value} {xs : List Value} (hv : w.ownsRow b' e size v n xs) (h1 : e ≠ t1) (hx : v.ownBlock ≠ some xb) (hy : v.ownBlock ≠ some yb) : w'.ownsRow b' e size v n xs := by
  obtain ⟨hl, hv⟩ := hv
  refine ⟨hl, ?_⟩
  rcases hv with hv | ⟨g, cap, cur, rfl, hb, hh, hr⟩
  · exact .inl hv
  · refine .inr ⟨g, cap, cur, rfl, hb, ?_, hr⟩
    rw [h.block g (Array.getElem?_eq_some_iff.1 hh).1 (fun e => hx (by rw [e]; rfl)) (fun e => hy (by rw [e]; rfl)) (.inr fun c t fz hc => by
      rw [hh] at hc
      injection hc with hc
      injection hc with _ hc _
      subst hc
      exact h1)]
    exact hh
theorem Kp.bl (h : Kp base xb yb t1 w w') {b : Nat} {t : TypeId} {cs : Array Value} (hv : Bl w b t cs) (hx : b ≠ xb) (hy : b ≠ yb) (ht : t ≠ t1) : Bl w' b t cs := by
  unfold Bl
  rw [h.block b hv.lt hx hy (.inr fun c t fz hc => by
    unfold Bl at hv
    rw [hv] at hc
    injection hc with hc
    injection hc with _ hc _
    subst hc
    exact ht)]
  exact hv
theorem Kp.late {W W' : World} (h : Kp base xb yb t1 w W) {r : Option Nat} (hg : W.grownBy W' r) (hr : ∀ g, r = some g → w.heap.size ≤ g) : Kp base xb yb t1 w W' :=
  ⟨hg.os.trans h.os, hg.tape.trans h.tape, hg.output.trans h.output, Nat.le_trans h.size hg.size, fun k hk hx hy hc => by
    rw [hg.block k (Nat.lt_of_lt_of_le hk h.size) (fun e => by have := hr k e.symm; omega)]
    exact h.block k hk hx hy hc⟩
end
theorem own_block_lt {w : World} {base : Nat} {e : TypeId} {size n : Nat} {v : Value} {xs : List Value} (h : w.ownsRow base e size v n xs) {b : Nat} (hb : w.heap.size ≤ b) : v.ownBlock ≠ some b := fun e => by
  have := (h.lt b e).2; omega
/-- Nodes in a row of the call's own, with rows of their kids. -/
def NRow (base : Nat) (v : Value) (ns : List PN) (qs : List Value) (w : World) : Prop := qs.length = ns.length ∧ w.ownsRow base 37 7 v ns.length (nodesC (ns.zip qs)) ∧
  ∀ (j : Nat) (n : PN) (q : Value), ns[j]? = some n → qs[j]? = some q → w.ownsRow base 3 1 q n.kids.length (intsV n.kids)
theorem NRow.nil (base : Nat) (w : World) : NRow base (.slice none 0 0) [] [] w := ⟨rfl, World.ownsRow_nil _ _ _ _, fun j n q h _ => by simp at h⟩
theorem NRow.grown {base : Nat} {v : Value} {ns : List PN} {qs : List Value} {w w' : World} (h : NRow base v ns qs w) (hb : Below w.heap.size w w') : NRow base v ns qs w' :=
  ⟨h.1, ownsRow_grown h.2.1 hb, fun j n q a b => ownsRow_grown (h.2.2 j n q a b) hb⟩
theorem NRow.nodes {base : Nat} {v : Value} {ns : List PN} {qs : List Value} {w : World} (h : NRow base v ns qs w) (hl : ns.length ≤ maxLen) (hk : ∀ n, n ∈ ns → n.kids.length ≤ maxLen) : NodesAt w v ns :=
  NodesAt.of_own h.2.1 h.1 hl (fun i n q a b => ⟨IntsAt.of_own (h.2.2 i n q a b), hk n (List.mem_of_getElem? a)⟩)
end Go.Proofs.Ytklimoepkifnhaa
