/- gram.Clone: the region that copies both slices. -/
import Derived.Test.YtklimoepkifnhaaGramOwnRow
import Derived.Deep.RegionWith
import Derived.Deep.RegionLaw
import Derived.Deep.AppendLies
namespace Go.Proofs.Ytklimoepkifnhaa
open Go.RowKit
/-- Block g is a grammar's. -/
def IsGram (W : World) (g : Nat) (x y : Value) : Prop := W.heap[g]? = some (.cells #[x, y] 25 (0, 0))
/-- Blocks stay as they are, but for grammars, which stay grammars. -/
def KeepG (w w' : World) : Prop := w.heap.size ≤ w'.heap.size ∧ ∀ b, b < w.heap.size → w'.heap[b]? = w.heap[b]? ∨ ((∃ x y, IsGram w b x y) ∧ ∃ x y, IsGram w' b x y)
theorem KeepG.refl (w : World) : KeepG w w := ⟨Nat.le_refl _, fun _ _ => .inl rfl⟩
theorem KeepG.of_grown {w w' : World} (h : w.grownBy w' none) : KeepG w w' := ⟨h.size, fun b hb => .inl (h.block b hb (by simp))⟩
theorem KeepG.gram {w w' : World} (h : KeepG w w') {g : Nat} (hg : ∃ x y, IsGram w g x y) : ∃ x y, IsGram w' g x y := by
  obtain ⟨x, y, hx⟩ := hg
  have hl : g < w.heap.size := (Array.getElem?_eq_some_iff.1 hx).1
  rcases h.2 g hl with h1 | ⟨-, h1⟩
  · exact ⟨x, y, by unfold IsGram; rw [h1]; exact hx⟩
  · exact h1
theorem KeepG.own {w w' : World} (h : KeepG w w') {base : Nat} {e : TypeId} {size : Nat} {v : Value} {n : Nat} {xs : List Value} (hv : w.ownsRow base e size v n xs) (he : e ≠ 25) : w'.ownsRow base e size v n xs := by
  obtain ⟨h1, h2⟩ := hv
  refine ⟨h1, ?_⟩
  rcases h2 with h2 | ⟨g, cap, cur, hv, hg, hh, r⟩
  · exact .inl h2
  · refine .inr ⟨g, cap, cur, hv, hg, ?_, r⟩
    have hl : g < w.heap.size := (Array.getElem?_eq_some_iff.1 hh).1
    rcases h.2 g hl with h3 | ⟨⟨x, y, h3⟩, -⟩
    · rw [h3]; exact hh
    · unfold IsGram at h3
      rw [h3] at hh
      injection hh with hh
      injection hh with _ hh
      exact absurd hh.symm he
section
variable (n0 B0 : Nat) (ru nu : Value) (rn nn : Nat) (rc nc : List Value)
def CLT : Nat → Value → World → Prop
  | 0, v, _ => v = .pointer (some ⟨B0, 0, none⟩)
  | 1, v, _ => v = ru
  | 2, v, W => W.ownsRow n0 53 2 v rn rc
  | 3, v, _ => v = .pointer (some ⟨B0, 1, none⟩)
  | 4, v, _ => v = nu
  | 5, v, W => W.ownsRow n0 37 7 v nn nc
  | 6, v, W => ∃ x y, v = .agg #[x, y] ∧ W.ownsRow n0 53 2 x rn rc ∧ W.ownsRow n0 37 7 y nn nc
  | 7, v, W => ∃ g, v = .pointer (some ⟨g, 0, none⟩) ∧ n0 ≤ g ∧ ∃ x y, IsGram W g x y
  | _, _, _ => True
theorem CLT_mono (k : Nat) (v : Value) (w w' : World) (h : KeepG w w') (hT : CLT n0 B0 ru nu rn nn rc nc k v w) : CLT n0 B0 ru nu rn nn rc nc k v w' := by
  match k, hT with
  | 0, hT => exact hT
  | 1, hT => exact hT
  | 2, hT => exact h.own hT (by decide)
  | 3, hT => exact hT
  | 4, hT => exact hT
  | 5, hT => exact h.own hT (by decide)
  | 6, hT => obtain ⟨x, y, h1, h2, h3⟩ := hT; exact ⟨x, y, h1, h.own h2 (by decide), h.own h3 (by decide)⟩
  | 7, hT => obtain ⟨g, h1, h2, h3⟩ := hT; exact ⟨g, h1, h2, h.gram h3⟩
  | _ + 8, _ => trivial
structure CLS (w0 : World) (L : Nat → Bool) (W : World) : Prop where
  below : Below n0 w0 W
  size : n0 ≤ W.heap.size
  free : L 7 = false → ∀ g x y, n0 ≤ g → ¬ IsGram W g x y
  one : ∀ g g' x y x' y', n0 ≤ g → n0 ≤ g' → IsGram W g x y → IsGram W g' x' y' → g = g'
  last : L 8 = true → ∀ g x y, n0 ≤ g → IsGram W g x y → W.ownsRow n0 53 2 x rn rc ∧ W.ownsRow n0 37 7 y nn nc
variable {n0 B0 ru nu rn nn rc nc}
theorem CLS.upd {w0 : World} {L : Nat → Bool} {W : World} (h : CLS n0 rn nn rc nc w0 L W) (k : Nat) (hk : k ≠ 7) (hk8 : k ≠ 8) : CLS n0 rn nn rc nc w0 (fun j => if j = k then true else L j) W :=
  ⟨h.below, h.size, fun h7 => h.free (by rw [if_neg (fun e => hk e.symm)] at h7; exact h7), h.one, fun h8 => h.last (by rw [if_neg (fun e => hk8 e.symm)] at h8; exact h8)⟩
theorem gram_old {W W' : World} (hg : W.grownBy W' Option.none) {t : TypeId} (ht : t ≠ 25) (hn : ∀ b o, W.heap.size ≤ b → W'.heap[b]? = some o → ∃ cs, o = .cells cs t (0, 0)) {g : Nat} {x y : Value} (h : IsGram W' g x y) : IsGram W g x y := by
  rcases Nat.lt_or_ge g W.heap.size with hl | hl
  · unfold IsGram at *; rw [← hg.block g hl (by simp)]; exact h
  · obtain ⟨cs, hc⟩ := hn g _ hl h
    injection hc with _ hc
    exact absurd hc.symm ht
theorem CLS.grown {w0 : World} {L : Nat → Bool} {W W' : World} (h : CLS n0 rn nn rc nc w0 L W) (k : Nat) (hk : k ≠ 7) (hk8 : k ≠ 8) (hg : W.grownBy W' Option.none) {t : TypeId} (ht : t ≠ 25) (hn : ∀ b o, W.heap.size ≤ b → W'.heap[b]? = some o → ∃ cs, o = .cells cs t (0, 0)) : CLS n0 rn nn rc nc w0 (fun j => if j = k then true else L j) W' :=
  ⟨h.below.grown hg h.size (fun k e => by cases e), Nat.le_trans h.size hg.size,
    fun h7 g x y hn0 hx => h.free (by rw [if_neg (fun e => hk e.symm)] at h7; exact h7) g x y hn0 (gram_old hg ht hn hx),
    fun g g' x y x' y' h1 h2 h3 h4 => h.one g g' x y x' y' h1 h2 (gram_old hg ht hn h3) (gram_old hg ht hn h4),
    fun h8 g x y h1 h2 => by
      have := h.last (by rw [if_neg (fun e => hk8 e.symm)] at h8; exact h8) g x y h1 (gram_old hg ht hn h2)
      exact ⟨(KeepG.of_grown hg).own this.1 (by decide), (KeepG.of_grown hg).own this.2 (by decide)⟩⟩
theorem CLS.alloc {w0 : World} {L : Nat → Bool} {W : World} (h : CLS n0 rn nn rc nc w0 L W) (h7 : L 7 = false) (h8 : L 8 = false) (x y : Value) : CLS n0 rn nn rc nc w0 (fun j => if j = 7 then true else L j) (W.alloc (.cells #[x, y] 25)) := by
  have old : ∀ g x' y', n0 ≤ g → IsGram (W.alloc (.cells #[x, y] 25)) g x' y' → g = W.heap.size := fun g x' y' hn hx => by
    rcases Nat.lt_trichotomy g W.heap.size with hl | hl | hl
    · have : IsGram W g x' y' := by unfold IsGram at *; rw [← Below.heap_alloc W (.cells #[x, y] 25) g hl]; exact hx
      exact absurd this (h.free h7 g x' y' hn)
    · exact hl
    · unfold IsGram at hx
      rw [Array.getElem?_eq_none (by rw [World.size_alloc]; omega)] at hx
      cases hx
  exact ⟨h.below.alloc h.size _, by rw [World.size_alloc]; exact Nat.le_succ_of_le h.size, fun e => by simp at e, fun g g' x y x' y' h1 h2 h3 h4 => by rw [old g _ _ h1 h3, old g' _ _ h2 h4], fun e => by rw [if_neg (by decide)] at e; rw [h8] at e; cases e⟩
theorem isGram_store {W : World} {g : Nat} {x0 y0 : Value} (hg : IsGram W g x0 y0) (x y : Value) : IsGram ((W.setCell ⟨g, 0, none⟩ x).setCell ⟨g, 1, none⟩ y) g x y := by
  have h1 := heap_setCell_same W g 0 #[x0, y0] 25 x hg
  have h2 := heap_setCell_same (W.setCell ⟨g, 0, none⟩ x) g 1 _ 25 y h1
  unfold IsGram
  rw [h2]
  simp
theorem isGram_other {W : World} {g k : Nat} {x y x' y' : Value} (hk : k ≠ g) : IsGram ((W.setCell ⟨g, 0, none⟩ x).setCell ⟨g, 1, none⟩ y) k x' y' ↔ IsGram W k x' y' := by
  unfold IsGram
  rw [heap_setCell_other _ _ _ _ hk, heap_setCell_other _ _ _ _ hk]
theorem KeepG.store {W : World} {g : Nat} {x0 y0 : Value} (hg : IsGram W g x0 y0) (x y : Value) : KeepG W ((W.setCell ⟨g, 0, none⟩ x).setCell ⟨g, 1, none⟩ y) := by
  refine ⟨by simp, fun b _ => ?_⟩
  by_cases hb : b = g
  · subst hb; exact .inr ⟨⟨_, _, hg⟩, _, _, isGram_store hg x y⟩
  · left; rw [heap_setCell_other _ _ _ _ hb, heap_setCell_other _ _ _ _ hb]
theorem CLS.store {w0 : World} {L : Nat → Bool} {W : World} (h : CLS n0 rn nn rc nc w0 L W) {g : Nat} {x0 y0 x y : Value} (hn : n0 ≤ g) (hg : IsGram W g x0 y0) (h1 : W.ownsRow n0 53 2 x rn rc) (h2 : W.ownsRow n0 37 7 y nn nc) :
    CLS n0 rn nn rc nc w0 (fun j => if j = 8 then true else L j) ((W.setCell ⟨g, 0, none⟩ x).setCell ⟨g, 1, none⟩ y) := by
  have hk := KeepG.store hg x y
  have old : ∀ k x' y', IsGram ((W.setCell ⟨g, 0, none⟩ x).setCell ⟨g, 1, none⟩ y) k x' y' → ∃ x y, IsGram W k x y := fun k x' y' hx => by
    by_cases e : k = g
    · subst e; exact ⟨_, _, hg⟩
    · exact ⟨_, _, (isGram_other e).1 hx⟩
  refine ⟨(h.below.setCell (p := ⟨g, 0, none⟩) hn x).setCell (p := ⟨g, 1, none⟩) hn y, by simpa using h.size, fun h7 => ?_, fun k k' x y x' y' a1 a2 a3 a4 => ?_, fun _ k x' y' a1 a2 => ?_⟩
  · exact absurd hg (h.free (by rw [if_neg (by decide)] at h7; exact h7) g _ _ hn)
  · obtain ⟨_, _, b3⟩ := old k _ _ a3
    obtain ⟨_, _, b4⟩ := old k' _ _ a4
    exact h.one k k' _ _ _ _ a1 a2 b3 b4
  · obtain ⟨_, _, b2⟩ := old k _ _ a2
    obtain rfl := h.one k g _ _ _ _ a1 hn b2 hg
    have := isGram_store hg x y
    unfold IsGram at this a2
    rw [this] at a2
    have e := (Option.some.inj a2)
    injection e with e
    simp at e
    obtain ⟨rfl, rfl⟩ := e
    exact ⟨hk.own h1 (by decide), hk.own h2 (by decide)⟩
end
theorem infoRule : (Try.prog.info? 53).map (fun i => (i.zero, i.size, i.bytes)) = some (some (.agg #[.string ⟨#[]⟩, .int .i64 0]), 2, 24) := by kernel_rfl
theorem infoNode : (Try.prog.info? 37).map (fun i => (i.zero, i.size, i.bytes)) = some (some (.agg #[.int .i64 0, .slice none 0 0, .int .i64 0, .int .u64 0, .int .u64 0, .int .u64 0, .int .u64 0]), 7, 72) := by kernel_rfl
/-- The step of an append onto nil in such a region. -/
theorem on_append {o : Oper} {a : Act} {w : World} {T : Nat → Value → World → Prop} {i : Nat} {R : World → World → Prop} {S : World → Prop} {Q : Exit → Act → World → Prop} (s x : Operand) (t : TypeId)
    (ho : o.op = .call { callee := .builtin .append, args := #[s, x], argTypes := #[t, t] }) {sv xv : Value} (hs : a.eval s = sv) (hx : a.eval x = xv) {v : Value} {w' : World} (hr : (Builtin.append_ #[t, t] o.type #[sv, xv]).run Try.prog w = .ok v w') (hT : T i v w') (hR : R w w') (hS : S w') :
    o.wp Try.prog a w (fun a' w' => ∃ v, a' = a.put o.dst v ∧ T i v w' ∧ R w w' ∧ S w') Q := by
  unfold Oper.wp execOp
  simp only [ho, resolve, invoke, builtin, Sem.run_bind, Sem.run_pure, Result.andThen_ok, List.map_toArray, List.map_cons, List.map_nil, hs, hx, hr]
  exact ⟨v, rfl, hT, hR, hS⟩
theorem on_value' {P : Program} {o : Oper} {a : Act} {w w' : World} {T : Nat → Value → World → Prop} {i : Nat} {R : World → World → Prop} {S : World → Prop} {Q : Exit → Act → World → Prop} (v : Value) (hv : (execOp a.eval o).run P w = .ok (.value v) w') (hT : T i v w') (hR : R w w') (hS : S w') :
    o.wp P a w (fun a' w' => ∃ v, a' = a.put o.dst v ∧ T i v w' ∧ R w w' ∧ S w') Q := by
  unfold Oper.wp
  rw [hv]
  exact ⟨v, rfl, hT, hR, hS⟩
/-- A clone as it grows: the block of its two slices, the rows of rules and nodes, its kids. -/
def CloneAt (n0 C : Nat) (rv nv : Value) (rs : List PR) (ns : List PN) (qs : List Value) (w0 W : World) : Prop :=
  n0 ≤ C ∧ IsGram W C rv nv ∧ W.ownsRow n0 53 2 rv rs.length (rulesC rs) ∧ W.ownsRow n0 37 7 nv ns.length (nodesC (ns.zip qs)) ∧ Below n0 w0 W
section
variable {n0 C : Nat} {rv nv : Value} {rs : List PR} {ns : List PN} {qs : List Value} {w0 W W' : World}
theorem CloneAt.kept (h : CloneAt n0 C rv nv rs ns qs w0 W) (hb : Below W.heap.size W W') : CloneAt n0 C rv nv rs ns qs w0 W' := by
  obtain ⟨h1, h2, h3, h4, h5⟩ := h
  have hl : C < W.heap.size := (Array.getElem?_eq_some_iff.1 h2).1
  have hn : n0 ≤ W.heap.size := by omega
  exact ⟨h1, by unfold IsGram; rw [hb.block C hl]; exact h2, ownsRow_grown h3 hb, ownsRow_grown h4 hb, h5.trans (hb.mono hn)⟩
theorem CloneAt.cell0 (h : CloneAt n0 C rv nv rs ns qs w0 W) : W.cell? ⟨C, 0, none⟩ = some rv := by have := h.2.1; unfold IsGram at this; simp [World.cell?, this]
theorem CloneAt.cell1 (h : CloneAt n0 C rv nv rs ns qs w0 W) : W.cell? ⟨C, 1, none⟩ = some nv := by have := h.2.1; unfold IsGram at this; simp [World.cell?, this]
theorem CloneAt.lt (h : CloneAt n0 C rv nv rs ns qs w0 W) : C < W.heap.size := (Array.getElem?_eq_some_iff.1 h.2.1).1
theorem row_ne {base : Nat} {e e' : TypeId} {size : Nat} {v : Value} {n : Nat} {xs : List Value} {g : Nat} (h : W.ownsRow base e size v n xs) (hg : ∃ c fz, W.heap[g]? = some (.cells c e' fz)) (he : e ≠ e') : v.ownBlock ≠ some g := fun hb => by
  obtain ⟨c, fz, h1⟩ := Lib.ownsRow_kind h g hb
  obtain ⟨c', fz', h2⟩ := hg
  rw [h1] at h2
  injection h2 with h2
  injection h2 with _ h2
  exact he h2
theorem set_same {l : List Value} {j : Nat} {u : Value} (h : l[j]? = some u) : l.set j u = l := by
  obtain ⟨hj, rfl⟩ := List.getElem?_eq_some_iff.1 h
  exact List.set_getElem_self hj
theorem below_drew1 (w : World) : Below w.heap.size w w.drew := (Below.refl _ _).drew
theorem cell_row {base g cap i : Nat} {r : PR} (h : W.ownsRow base 53 2 (.slice (some ⟨g, 0, none⟩) rs.length cap) rs.length (rulesC rs)) (hr : rs[i]? = some r) : W.cell? ⟨g, i * 2, none⟩ = some (.string r.name) := by
  have := h.cells rfl (i * 2 + 0) _ (rulesC_at (j := 0) hr (by decide))
  rw [Addr.add_lit, Nat.zero_add] at this; exact this
theorem frozen_row {base g cap n size : Nat} {e : TypeId} {xs : List Value} (h : W.ownsRow base e size (.slice (some ⟨g, 0, none⟩) n cap) n xs) : ∀ o, W.frozen? ⟨g, o, none⟩ = false := fun o => h.frozenAt o
theorem CloneAt.rule {g cap i : Nat} {r : PR} (h : CloneAt n0 C (.slice (some ⟨g, 0, none⟩) rs.length cap) nv rs ns qs w0 W) (hr : rs[i]? = some r) : CloneAt n0 C (.slice (some ⟨g, 0, none⟩) rs.length cap) nv rs ns qs w0 (W.setCell ⟨g, i * 2, none⟩ (.string r.name)) := by
  obtain ⟨h1, h2, h3, h4, h5⟩ := h
  have hk := Lib.ownsRow_kind h3 g rfl
  have hg := (h3.lt g rfl).1
  have hcg : C ≠ g := fun e => by
    subst e
    obtain ⟨c, fz, h6⟩ := hk
    unfold IsGram at h2
    rw [h2] at h6
    injection h6 with h6
    injection h6 with _ h6
    exact absurd h6 (by decide)
  refine ⟨h1, by unfold IsGram; rw [heap_setCell_other _ _ _ _ hcg]; exact h2, ?_, ownsRow_setCell_other h4 (row_ne h4 hk (by decide)) _, h5.setCell (p := ⟨g, i * 2, none⟩) hg _⟩
  have := (h3.stored (i * 2 + 0) (.string r.name)).1
  rw [set_same (rulesC_at (j := 0) hr (by decide))] at this
  exact this
end
/-- The kids: the first i are the call's own, the others as they came. -/
def KMix (n0 : Nat) (ns : List PN) (qs : List Value) (i : Nat) (w W : World) : Prop := ∀ (j : Nat) (n : PN) (q : Value), ns[j]? = some n → qs[j]? = some q → (j < i → W.ownsRow n0 3 1 q n.kids.length (intsV n.kids)) ∧ (i ≤ j → IntsAt w q n.kids)
theorem below_of_grown {w w' : World} (h : w.grownBy w' none) : Below w.heap.size w w' := ⟨h.os, h.tape, h.output, h.size, fun k hk => h.block k hk (by simp)⟩
theorem IntsAt.src {w : World} {a : Option Addr} {c : Nat} {l : List Int} (h : IntsAt w (.slice a l.length c) l) : l.length = 0 ∨ ∃ b off, a = some ⟨b, off, none⟩ ∧ ∀ j u, (intsV l)[j]? = some u → w.cell? ⟨b, off + j, none⟩ = some u := by
  obtain ⟨a', c', e, h⟩ := h
  injection e with e1 _ e3
  subst e1 e3
  rcases h with h | ⟨b, off, rfl, hc⟩
  · left; rw [h]; rfl
  · right
    refine ⟨b, off, rfl, fun j u hu => ?_⟩
    unfold intsV at hu
    rw [List.getElem?_map] at hu
    cases hj : l[j]? with
    | none => rw [hj] at hu; cases hu
    | some x => rw [hj] at hu; cases hu; exact hc j x hj
theorem cell_node {W : World} {base g cap i : Nat} {ns : List PN} {qs : List Value} {n : PN} {q : Value} (h : W.ownsRow base 37 7 (.slice (some ⟨g, 0, none⟩) ns.length cap) ns.length (nodesC (ns.zip qs))) (hn : ns[i]? = some n) (hq : qs[i]? = some q) : W.cell? ⟨g, i * 7 + 1, none⟩ = some q := by
  have := h.cells rfl (i * 7 + 1) q (by rw [nodesC_at (zip_at hn hq) (by decide)]; rfl)
  rw [Addr.add_lit, Nat.zero_add] at this; exact this
/-- The append of a region that draws, onto nil. -/
theorem step_append_fresh {ops : Array Oper} {o : Oper} {a : Act} {w : World} {K : Act → World → Prop} {Q : Exit → Act → World → Prop} {E : Prop} (hgd : o.guard = none) (s x : Operand) (t : TypeId)
    (ho : o.op = .call { callee := .builtin .append, args := #[s, x], argTypes := #[t, t] })
    (base : Nat) (e : TypeId) (i : TypeInfo) (z : Value) (size bytes : Nat) (ht : Try.prog.underlying t = some (.slice e)) (hi : Try.prog.info? e = some i) (hz : i.zero = some z)
    (hsize : i.size = size) (hby : i.bytes = bytes) (hzs : z.cells.size = size) (hsz : 0 < size) (hs : a.eval s = .slice none 0 0)
    (ka : Option Addr) (m c : Nat) (news : List Value) (hx : a.eval x = .slice ka m c) (hl : news.length = m * size) (ha : m = 0 ∨ ∃ b off, ka = some ⟨b, off, none⟩ ∧ ∀ j u, news[j]? = some u → w.cell? ⟨b, off + j, none⟩ = some u) (h1 : ∀ u ∈ news, u.oneCell' = true)
    (h63 : m ≤ maxLen) (hbytes : m * bytes ≤ 140737488355328) (hbase : base ≤ w.heap.size)
    (h : ∀ a' cap' w', w'.ownsRow base e size (.slice a' m cap') m news → w.grownBy w' none → K (a.put o.dst (.slice a' m cap')) w') :
    if Region.wanted o (yielded ops a.tmps) = true then Oper.wp Try.prog o a w K Q else E := by
  have hw : Region.wanted o (yielded ops a.tmps) = true := by simp [Region.wanted, hgd]
  rw [if_pos hw]
  obtain ⟨v', w', hr, h2, h3, -⟩ := run_append_fresh (P := Try.prog) w base t o.type e i z size bytes ht hi hz hsize hby hzs hsz ka m c news hl ha h1 h63 hbytes hbase
  obtain ⟨a', cap', rfl⟩ : ∃ a' c', v' = .slice a' m c' := by
    rcases h2.2 with ⟨e, e0⟩ | ⟨g, cap, cur, e, -⟩
    · exact ⟨none, 0, by rw [e, e0]⟩
    · exact ⟨_, _, e⟩
  unfold Oper.wp execOp
  simp only [ho, resolve, invoke, builtin, Sem.run_bind, Sem.run_pure, Result.andThen_ok, List.map_toArray, List.map_cons, List.map_nil, hs, hx, hr]
  exact h a' cap' w' h2 h3
theorem nodesC_set : ∀ (ns : List PN) (qs : List Value) (i : Nat) (v : Value), qs.length = ns.length → i < ns.length → (nodesC (ns.zip qs)).set (i * 7 + 1) v = nodesC (ns.zip (qs.set i v))
  | [], _, i, v, _, h => absurd h (Nat.not_lt_zero _)
  | n :: ns, [], i, v, h, _ => by simp at h
  | n :: ns, q :: qs, 0, v, _, _ => rfl
  | n :: ns, q :: qs, i + 1, v, h, hi => by
    have ih := nodesC_set ns qs i v (by simpa using h) (by simpa using hi)
    show (nodeC (n, q) ++ nodesC (ns.zip qs)).set ((i + 1) * 7 + 1) v = nodeC (n, q) ++ nodesC (ns.zip (qs.set i v))
    rw [List.set_append_right (h := by show 7 ≤ _; omega), ← ih]
    congr 2
    show (i + 1) * 7 + 1 - 7 = _
    omega
theorem CloneAt.node {n0 C g cap i : Nat} {rv v : Value} {rs : List PR} {ns : List PN} {qs : List Value} {w0 W : World} (h : CloneAt n0 C rv (.slice (some ⟨g, 0, none⟩) ns.length cap) rs ns qs w0 W) (hq : qs.length = ns.length) (hi : i < ns.length) : CloneAt n0 C rv (.slice (some ⟨g, 0, none⟩) ns.length cap) rs ns (qs.set i v) w0 (W.setCell ⟨g, i * 7 + 1, none⟩ v) := by
  obtain ⟨h1, h2, h3, h4, h5⟩ := h
  have hk := Lib.ownsRow_kind h4 g rfl
  have hg := (h4.lt g rfl).1
  have hcg : C ≠ g := fun e => by
    subst e
    obtain ⟨c, fz, h6⟩ := hk
    unfold IsGram at h2
    rw [h2] at h6
    injection h6 with h6
    injection h6 with _ h6
    exact absurd h6 (by decide)
  refine ⟨h1, by unfold IsGram; rw [heap_setCell_other _ _ _ _ hcg]; exact h2, ownsRow_setCell_other h3 (row_ne h3 hk (by decide)) _, ?_, h5.setCell (p := ⟨g, i * 7 + 1, none⟩) hg _⟩
  have := (h4.stored (i * 7 + 1) v).1
  rw [nodesC_set ns qs i v hq hi] at this
  exact this
theorem KMix.step {n0 : Nat} {ns : List PN} {qs : List Value} {i : Nat} {w W W2 : World} {n : PN} {v : Value} {g base cap k : Nat} {xs : List Value} (h : KMix n0 ns qs i w W) (hb : Below W.heap.size W W2) (hn : ns[i]? = some n) (hv : W2.ownsRow n0 3 1 v n.kids.length (intsV n.kids)) (hr : W2.ownsRow base 37 7 (.slice (some ⟨g, 0, none⟩) k cap) k xs) (o : Nat) (u : Value) :
    KMix n0 ns (qs.set i v) (i + 1) w (W2.setCell ⟨g, o, none⟩ u) := fun j m q h1 h2 => by
  have hk := Lib.ownsRow_kind hr g rfl
  rw [List.getElem?_set] at h2
  by_cases e : i = j
  · subst e
    rw [if_pos rfl] at h2
    split at h2
    · cases h2
      rw [hn] at h1
      obtain rfl := Option.some.inj h1
      exact ⟨fun _ => ownsRow_setCell_other hv (row_ne hv hk (by decide)) _, fun h => absurd h (by omega)⟩
    · cases h2
  · rw [if_neg e] at h2
    obtain ⟨a1, a2⟩ := h j m q h1 h2
    refine ⟨fun hj => ?_, fun hj => a2 (by omega)⟩
    have := ownsRow_grown (a1 (by omega)) hb
    exact ownsRow_setCell_other this (row_ne this hk (by decide)) _
/-- What Clone returns: a grammar in memory of its own. -/
def CloneIs (rs : List PR) (ns : List PN) (w : World) (e : Ending) (w' : World) : Prop :=
  ∃ (rv nv : Value) (qs : List Value), e = .returned (.agg #[rv, nv]) ∧ qs.length = ns.length ∧ w'.ownsRow w.heap.size 53 2 rv rs.length (rulesC rs) ∧ w'.ownsRow w.heap.size 37 7 nv ns.length (nodesC (ns.zip qs)) ∧
    (∀ (j : Nat) (n : PN) (q : Value), ns[j]? = some n → qs[j]? = some q → w'.ownsRow w.heap.size 3 1 q n.kids.length (intsV n.kids)) ∧ Below w.heap.size w w'
theorem own_low {W : World} {base : Nat} {e : TypeId} {size n g : Nat} {v : Value} {xs : List Value} (h : W.ownsRow base e size v n xs) (hg : g < base) (u : Value) (o : Nat) : (W.setCell ⟨g, o, none⟩ u).ownsRow base e size v n xs := ownsRow_setCell_below h (a := ⟨g, o, none⟩) hg u
theorem own_mono {W : World} {base base' : Nat} {e : TypeId} {size n : Nat} {v : Value} {xs : List Value} (h : W.ownsRow base e size v n xs) (hb : base' ≤ base) : W.ownsRow base' e size v n xs :=
  ⟨h.1, h.2.elim Or.inl (fun ⟨g, cap, cur, hv, hg, r⟩ => Or.inr ⟨g, cap, cur, hv, Nat.le_trans hb hg, r⟩)⟩
theorem CloneIs.mk {C : Nat} {rv nv x y : Value} {rs : List PR} {ns : List PN} {qs : List Value} {w w0 wr : World} (h : CloneAt w0.heap.size C rv nv rs ns qs w0 wr) (hm : KMix w0.heap.size ns qs ns.length w wr) (hq : qs.length = ns.length) (hz : w.heap.size + 2 ≤ w0.heap.size) (hb : Below w.heap.size w wr) :
    CloneIs rs ns w (.returned (.agg #[rv, nv])) ((wr.setCell ⟨w.heap.size + 1, 0, none⟩ x).setCell ⟨w.heap.size + 1, 1, none⟩ y) := by
  obtain ⟨h1, h2, h3, h4, h5⟩ := h
  refine ⟨rv, nv, qs, rfl, hq, own_mono (own_low (own_low h3 (by omega) _ _) (by omega) _ _) (by omega), own_mono (own_low (own_low h4 (by omega) _ _) (by omega) _ _) (by omega), fun j n q a1 a2 => ?_, (hb.setCell (p := ⟨w.heap.size + 1, 0, none⟩) (Nat.le_succ _) _).setCell (p := ⟨w.heap.size + 1, 1, none⟩) (Nat.le_succ _) _⟩
  have := (hm j n q a1 a2).1 (List.getElem?_eq_some_iff.1 a1).1
  exact own_mono (own_low (own_low this (by omega) _ _) (by omega) _ _) (by omega)
end Go.Proofs.Ytklimoepkifnhaa
