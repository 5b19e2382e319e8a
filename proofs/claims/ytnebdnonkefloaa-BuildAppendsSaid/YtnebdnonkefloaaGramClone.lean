/- gram.Clone: the region that copies both slices. -/
import Derived.Test.YtnebdnonkefloaaGramOwnRow
import Derived.Deep.RegionWith
import Derived.Deep.RegionLaw
import Derived.Deep.AppendLies
namespace Go.Proofs.Ytnebdnonkefloaa
open Go.RowKit
/-- Block g is a grammar's. -/
def IsGram (W : World) (g : Nat) (x y : Value) : Prop := W.heap[g]? = some (.cells #[x, y] 36 (0, 0))
/-- Blocks stay as they are, but for grammars, which stay grammars. -/
def KeepG (w w' : World) : Prop := w.heap.size ≤ w'.heap.size ∧ ∀ b, b < w.heap.size → w'.heap[b]? = w.heap[b]? ∨ ((∃ x y, IsGram w b x y) ∧ ∃ x y, IsGram w' b x y)
theorem KeepG.refl (w : World) : KeepG w w := ⟨Nat.le_refl _, fun _ _ => .inl rfl⟩
theorem KeepG.of_grown {w w' : World} (h : w.grownBy w' none) : KeepG w w' := ⟨h.size, fun b hb => .inl (h.block b hb (by simp))⟩
theorem KeepG.gram {w w' : World} (h : KeepG w w') {g : Nat} (hg : ∃ x y, IsGram w g x y) : ∃ x y, IsGram w' g x y := by
  obtain ⟨x, y, hx⟩ := hg
  have hl : g < w.heap.size := (Array.getElem?_eq_some_iff.1 hx).1
  rcases h.2 g hl with h1 | ⟨-, h1⟩
  · exact ⟨x, y, by unfold IsGram; rw [h1]; exact hx⟩
  · exact h1
theorem KeepG.own {w w' : World} (h : KeepG w w') {base : Nat} {e : TypeId} {size : Nat} {v : Value} {n : Nat} {xs : List Value} (hv : w.ownsRow base e size v n xs) (he : e ≠ 36) : w'.ownsRow base e size v n xs := by
  obtain ⟨h1, h2⟩ := hv
  refine ⟨h1, ?_⟩
  rcases h2 with h2 | ⟨g, cap, cur, hv, hg, hh, r⟩
  · exact .inl h2
  · refine .inr ⟨g, cap, cur, hv, hg, ?_, r⟩
    have hl : g < w.heap.size := (Array.getElem?_eq_some_iff.1 hh).1
    rcases h.2 g hl with h3 | ⟨⟨x, y, h3⟩, -⟩
    · rw [h3]; exact hh
    · unfold IsGram at h3
      rw [h3] at hh
      injection hh with hh
      injection hh with _ hh
      exact absurd hh.symm he
section
variable (n0 B0 : Nat) (ru nu : Value) (rn nn : Nat) (rc nc : List Value)
def CLT : Nat → Value → World → Prop
  | 0, v, _ => v = .pointer (some ⟨B0, 0, none⟩)
  | 1, v, _ => v = ru
  | 2, v, W => W.ownsRow n0 70 2 v rn rc
  | 3, v, _ => v = .pointer (some ⟨B0, 1, none⟩)
  | 4, v, _ => v = nu
  | 5, v, W => W.ownsRow n0 55 7 v nn nc
  | 6, v, W => ∃ x y, v = .agg #[x, y] ∧ W.ownsRow n0 70 2 x rn rc ∧ W.ownsRow n0 55 7 y nn nc
  | 7, v, W => ∃ g, v = .pointer (some ⟨g, 0, none⟩) ∧ n0 ≤ g ∧ ∃ x y, IsGram W g x y
  | _, _, _ => True
theorem CLT_mono (k : Nat) (v : Value) (w w' : World) (h : KeepG w w') (hT : CLT n0 B0 ru nu rn nn rc nc k v w) : CLT n0 B0 ru nu rn nn rc nc k v w' := by
  match k, hT with
  | 0, hT => exact hT
  | 1, hT => exact hT
  | 2, hT => exact h.own hT (by decide)
  | 3, hT => exact hT
  | 4, hT => exact hT
  | 5, hT => exact h.own hT (by decide)
  | 6, hT => obtain ⟨x, y, h1, h2, h3⟩ := hT; exact ⟨x, y, h1, h.own h2 (by decide), h.own h3 (by decide)⟩
  | 7, hT => obtain ⟨g, h1, h2, h3⟩ := hT; exact ⟨g, h1, h2, h.gram h3⟩
  | _ + 8, _ => trivial
structure CLS (w0 : World) (L : Nat → Bool) (W : World) : Prop where
  below : Below n0 w0 W
  size : n0 ≤ W.heap.size
  free : L 7 = false → ∀ g x y, n0 ≤ g → ¬ IsGram W g x y
  one : ∀ g g' x y x' y', n0 ≤ g → n0 ≤ g' → IsGram W g x y → IsGram W g' x' y' → g = g'
  last : L 8 = true → ∀ g x y, n0 ≤ g → IsGram W g x y → W.ownsRow n0 70 2 x rn rc ∧ W.ownsRow n0 55 7 y nn nc
variable {n0 B0 ru nu rn nn rc nc}
theorem CLS.upd {w0 : World} {L : Nat → Bool} {W : World} (h : CLS n0 rn nn rc nc w0 L W) (k : Nat) (hk : k ≠ 7) (hk8 : k ≠ 8) : CLS n0 rn nn rc nc w0 (fun j => if j = k then true else L j) W :=
  ⟨h.below, h.size, fun h7 => h.free (by rw [if_neg (fun e => hk e.symm)] at h7; exact h7), h.one, fun h8 => h.last (by rw [if_neg (fun e => hk8 e.symm)] at h8; exact h8)⟩
theorem gram_old {W W' : World} (hg : W.grownBy W' Option.none) {t : TypeId} (ht : t ≠ 36) (hn : ∀ b o, W.heap.size ≤ b → W'.heap[b]? = some o → ∃ cs, o = .cells cs t (0, 0)) {g : Nat} {x y : Value} (h : IsGram W' g x y) : IsGram W g x y := by
  rcases Nat.lt_or_ge g W.heap.size with hl | hl
  · unfold IsGram at *; rw [← hg.block g hl (by simp)]; exact h
  · obtain ⟨cs, hc⟩ := hn g _ hl h
    injection hc with _ hc
    exact absurd hc.symm ht
theorem CLS.grown {w0 : World} {L : Nat → Bool} {W W' : World} (h : CLS n0 rn nn rc nc w0 L W) (k : Nat) (hk : k ≠ 7) (hk8 : k ≠ 8) (hg : W.grownBy W' Option.none) {t : TypeId} (ht : t ≠ 36) (hn : ∀ b o, W.heap.size ≤ b → W'.heap[b]? = some o → ∃ cs, o = .cells cs t (0, 0)) : CLS n0 rn nn rc nc w0 (fun j => if j = k then true else L j) W' :=
  ⟨h.below.grown hg h.size (fun k e => by cases e), Nat.le_trans h.size hg.size,
    fun h7 g x y hn0 hx => h.free (by rw [if_neg (fun e => hk e.symm)] at h7; exact h7) g x y hn0 (gram_old hg ht hn hx),
    fun g g' x y x' y' h1 h2 h3 h4 => h.one g g' x y x' y' h1 h2 (gram_old hg ht hn h3) (gram_old hg ht hn h4),
    fun h8 g x y h1 h2 => by
      have := h.last (by rw [if_neg (fun e => hk8 e.symm)] at h8; exact h8) g x y h1 (gram_old hg ht hn h2)
      exact ⟨(KeepG.of_grown hg).own this.1 (by decide), (KeepG.of_grown hg).own this.2 (by decide)⟩⟩
theorem CLS.alloc {w0 : World} {L : Nat → Bool} {W : World} (h : CLS n0 rn nn rc nc w0 L W) (h7 : L 7 = false) (h8 : L 8 = false) (x y : Value) : CLS n0 rn nn rc nc w0 (fun j => if j = 7 then true else L j) (W.alloc (.cells #[x, y] 36)) := by
  have old : ∀ g x' y', n0 ≤ g → IsGram (W.alloc (.cells #[x, y] 36)) g x' y' → g = W.heap.size := fun g x' y' hn hx => by
    rcases Nat.lt_trichotomy g W.heap.size with hl | hl | hl
    · have : IsGram W g x' y' := by unfold IsGram at *; rw [← Below.heap_alloc W (.cells #[x, y] 36) g hl]; exact hx
      exact absurd this (h.free h7 g x' y' hn)
    · exact hl
    · unfold IsGram at hx
      rw [Array.getElem?_eq_none (by rw [World.size_alloc]; omega)] at hx
      cases hx
  exact ⟨h.below.alloc h.size _, by rw [World.size_alloc]; exact Nat.le_succ_of_le h.size, fun e => by simp at e, fun g g' x y x' y' h1 h2 h3 h4 => by rw [old g _ _ h1 h3, old g' _ _ h2 h4], fun e => by rw [if_neg (by decide)] at e; rw [h8] at e; cases e⟩
theorem isGram_store {W : World} {g : Nat} {x0 y0 : Value} (hg : IsGram W g x0 y0) (x y : Value) : IsGram ((W.setCell ⟨g, 0, none⟩ x).setCell ⟨g, 1, none⟩ y) g x y := by
  have h1 := heap_setCell_same W g 0 #[x0, y0] 36 x hg
  have h2 := heap_setCell_same (W.setCell ⟨g, 0, none⟩ x) g 1 _ 36 y h1
  unfold IsGram
  rw [h2]
  simp
theorem isGram_other {W : World} {g k : Nat} {x y x' y' : Value} (hk : k ≠ g) : IsGram ((W.setCell ⟨g, 0, none⟩ x).setCell ⟨g, 1, none⟩ y) k x' y' ↔ IsGram W k x' y' := by
  unfold IsGram
  rw [heap_setCell_other _ _ _ _ hk, heap_setCell_other _ _ _ _ hk]
theorem KeepG.store {W : World} {g : Nat} {x0 y0 : Value} (hg : IsGram W g x0 y0) (x y : Value) : KeepG W ((W.setCell ⟨g, 0, none⟩ x).setCell ⟨g, 1, none⟩ y) := by
  refine ⟨by simp, fun b _ => ?_⟩
  by_cases hb : b = g
  · subst hb; exact .inr ⟨⟨_, _, hg⟩, _, _, isGram_store hg x y⟩
  · left; rw [heap_setCell_other _ _ _ _ hb, heap_setCell_other _ _ _ _ hb]
theorem CLS.store {w0 : World} {L : Nat → Bool} {W : World} (h : CLS n0 rn nn rc nc w0 L W) {g : Nat} {x0 y0 x y : Value} (hn : n0 ≤ g) (hg : IsGram W g x0 y0) (h1 : W.ownsRow n0 70 2 x rn rc) (h2 : W.ownsRow n0 55 7 y nn nc) :
    CLS n0 rn nn rc nc w0 (fun j => if j = 8 then true else L j) ((W.setCell ⟨g, 0, none⟩ x).setCell ⟨g, 1, none⟩ y) := by
  have hk := KeepG.store hg x y
  have old : ∀ k x' y', IsGram ((W.setCell ⟨g, 0, none⟩ x).setCell ⟨g, 1, none⟩ y) k x' y' → ∃ x y, IsGram W k x y := fun k x' y' hx => by
    by_cases e : k = g
    · subst e; exact ⟨_, _, hg⟩
    · exact ⟨_, _, (isGram_other e).1 hx⟩
  refine ⟨(h.below.setCell (p := ⟨g, 0, none⟩) hn x).setCell (p := ⟨g, 1, none⟩) hn y, by simpa using h.size, fun h7 => ?_, fun k k' x y x' y' a1 a2 a3 a4 => ?_, fun _ k x' y' a1 a2 => ?_⟩
  · exact absurd hg (h.free (by rw [if_neg (by decide)] at h7; exact h7) g _ _ hn)
  · obtain ⟨_, _, b3⟩ := old k _ _ a3
    obtain ⟨_, _, b4⟩ := old k' _ _ a4
    exact h.one k k' _ _ _ _ a1 a2 b3 b4
  · obtain ⟨_, _, b2⟩ := old k _ _ a2
    obtain rfl := h.one k g _ _ _ _ a1 hn b2 hg
    have := isGram_store hg x y
    unfold IsGram at this a2
    rw [this] at a2
    have e := (Option.some.inj a2)
    injection e with e
    simp at e
    obtain ⟨rfl, rfl⟩ := e
    exact ⟨hk.own h1 (by decide), hk.own h2 (by decide)⟩
end
theorem infoRule : (Try.prog.info? 70).map (fun i => (i.zero, i.size, i.bytes)) = some (some (.agg #[.string ⟨#[]⟩, .int .i64 0]), 2, 24) := by kernel_rfl
theorem infoNode : (Try.prog.info? 55).map (fun i => (i.zero, i.size, i.bytes)) = some (some (.agg #[.int .i64 0, .slice none 0 0, .int .i64 0, .int .u64 0, .int .u64 0, .int .u64 0, .int .u64 0]), 7, 72) := by kernel_rfl
/-- The step of an append onto nil in such a region. -/
theorem on_append {o : Oper} {a : Act} {w : World} {T : Nat → Value → World → Prop} {i : Nat} {R : World → World → Prop} {S : World → Prop} {Q : Exit → Act → World → Prop} (s x : Operand) (t : TypeId)
    (ho : o.op = .call { callee := .builtin .append, args := #[s, x], argTypes := #[t, t] }) {sv xv : Value} (hs : a.eval s = sv) (hx : a.eval x = xv) {v : Value} {w' : World} (hr : (Builtin.append_ #[t, t] o.type #[sv, xv]).run Try.prog w = .ok v w') (hT : T i v w') (hR : R w w') (hS : S w') :
    o.wp Try.prog a w (fun a' w' => ∃ v, a' = a.put o.dst v ∧ T i v w' ∧ R w w' ∧ S w') Q := by
  unfold Oper.wp execOp
  simp only [ho, resolve, invoke, builtin, Sem.run_bind, Sem.run_pure, Result.andThen_ok, List.map_toArray, List.map_cons, List.map_nil, hs, hx, hr]
  exact ⟨v, rfl, hT, hR, hS⟩
theorem on_value' {P : Program} {o : Oper} {a : Act} {w w' : World} {T : Nat → Value → World → Prop} {i : Nat} {R : World → World → Prop} {S : World → Prop} {Q : Exit → Act → World → Prop} (v : Value) (hv : (execOp a.eval o).run P w = .ok (.value v) w') (hT : T i v w') (hR : R w w') (hS : S w') :
    o.wp P a w (fun a' w' => ∃ v, a' = a.put o.dst v ∧ T i v w' ∧ R w w' ∧ S w') Q := by
  unfold Oper.wp
  rw [hv]
  exact ⟨v, rfl, hT, hR, hS⟩
/-- A clone as it grows: the block of its two slices, the rows of rules and nodes, its kids. -/
def CloneAt (n0 C : Nat) (rv nv : Value) (rs : List PR) (ns : List PN) (qs : List Value) (w0 W : World) : Prop :=
  n0 ≤ C ∧ IsGram W C rv nv ∧ W.ownsRow n0 70 2 rv rs.length (rulesC rs) ∧ W.ownsRow n0 55 7 nv ns.length (nodesC (ns.zip qs)) ∧ Below n0 w0 W
section
variable {n0 C : Nat} {rv nv : Value} {rs : List PR} {ns : List PN} {qs : List Value} {w0 W W' : World}
theorem CloneAt.kept (h : CloneAt n0 C rv nv rs ns qs w0 W) (hb : Below W.heap.size W W') : CloneAt n0 C rv nv rs ns qs w0 W' := by
  obtain ⟨h1, h2, h3, h4, h5⟩ := h
  have hl : C < W.heap.size := (Array.getElem?_eq_some_iff.1 h2).1
  have hn : n0 ≤ W.heap.size := by omega
  exact ⟨h1, by unfold IsGram; rw [hb.block C hl]; exact h2, ownsRow_grown h3 hb, ownsRow_grown h4 hb, h5.trans (hb.mono hn)⟩
theorem CloneAt.cell0 (h : CloneAt n0 C rv nv rs ns qs w0 W) : W.cell? ⟨C, 0, none⟩ = some rv := by have := h.2.1; unfold IsGram at this; simp [World.cell?, this]
theorem CloneAt.cell1 (h : CloneAt n0 C rv nv rs ns qs w0 W) : W.cell? ⟨C, 1, none⟩ = some nv := by have := h.2.1; unfold IsGram at this; simp [World.cell?, this]
theorem CloneAt.lt (h : CloneAt n0 C rv nv rs ns qs w0 W) : C < W.heap.size := (Array.getElem?_eq_some_iff.1 h.2.1).1
theorem row_ne {base : Nat} {e e' : TypeId} {size : Nat} {v : Value} {n : Nat} {xs : List Value} {g : Nat} (h : W.ownsRow base e size v n xs) (hg : ∃ c fz, W.heap[g]? = some (.cells c e' fz)) (he : e ≠ e') : v.ownBlock ≠ some g := fun hb => by
  obtain ⟨c, fz, h1⟩ := Lib.ownsRow_kind h g hb
  obtain ⟨c', fz', h2⟩ := hg
  rw [h1] at h2
  injection h2 with h2
  injection h2 with _ h2
  exact he h2
theorem set_same {l : List Value} {j : Nat} {u : Value} (h : l[j]? = some u) : l.set j u = l := by
  obtain ⟨hj, rfl⟩ := List.getElem?_eq_some_iff.1 h
  exact List.set_getElem_self hj
theorem below_drew1 (w : World) : Below w.heap.size w w.drew := (Below.refl _ _).drew
theorem cell_row {base g cap i : Nat} {r : PR} (h : W.ownsRow base 70 2 (.slice (some ⟨g, 0, none⟩) rs.length cap) rs.length (rulesC rs)) (hr : rs[i]? = some r) : W.cell? ⟨g, i * 2, none⟩ = some (.string r.name) := by
  have := h.cells rfl (i * 2 + 0) _ (rulesC_at (j := 0) hr (by decide))
  rw [Addr.add_lit, Nat.zero_add] at this; exact this
theorem frozen_row {base g cap n size : Nat} {e : TypeId} {xs : List Value} (h : W.ownsRow base e size (.slice (some ⟨g, 0, none⟩) n cap) n xs) : ∀ o, W.frozen? ⟨g, o, none⟩ = false := fun o => h.frozenAt o
theorem CloneAt.rule {g cap i : Nat} {r : PR} (h : CloneAt n0 C (.slice (some ⟨g, 0, none⟩) rs.length cap) nv rs ns qs w0 W) (hr : rs[i]? = some r) : CloneAt n0 C (.slice (some ⟨g, 0, none⟩) rs.length cap) nv rs ns qs w0 (W.setCell ⟨g, i * 2, none⟩ (.string r.name)) := by
  obtain ⟨h1, h2, h3, h4, h5⟩ := h
  have hk := Lib.ownsRow_kind h3 g rfl
  have hg := (h3.lt g rfl).1
  have hcg : C ≠ g := fun e => by
    subst e
    obtain ⟨c, fz, h6⟩ := hk
    unfold IsGram at h2
    rw [h2] at h6
    injection h6 with h6
    injection h6 with _ h6
    exact absurd h6 (by decide)
  refine ⟨h1, by unfold IsGram; rw [heap_setCell_other _ _ _ _ hcg]; exact h2, ?_, ownsRow_setCell_other h4 (row_ne h4 hk (by decide)) _, h5.setCell (p := ⟨g, i * 2, none⟩) hg _⟩
  have := (h3.stored (i * 2 + 0) (.string r.name)).1
  rw [set_same (rulesC_at (j := 0) hr (by decide))] at this
  exact this
end
/-- The kids: the first i are the call's own, the others as they came. -/
def KMix (n0 : Nat) (ns : List PN) (qs : List Value) (i : Nat) (w W : World) : Prop := ∀ (j : Nat) (n : PN) (q : Value), ns[j]? = some n → qs[j]? = some q → (j < i → W.ownsRow n0 3 1 q n.kids.length (intsV n.kids)) ∧ (i ≤ j → IntsAt w q n.kids)
theorem below_of_grown {w w' : World} (h : w.grownBy w' none) : Below w.heap.size w w' := ⟨h.os, h.tape, h.output, h.size, fun k hk => h.block k hk (by simp)⟩
theorem IntsAt.src {w : World} {a : Option Addr} {c : Nat} {l : List Int} (h : IntsAt w (.slice a l.length c) l) : l.length = 0 ∨ ∃ b off, a = some ⟨b, off, none⟩ ∧ ∀ j u, (intsV l)[j]? = some u → w.cell? ⟨b, off + j, none⟩ = some u := by
  obtain ⟨a', c', e, h⟩ := h
  injection e with e1 _ e3
  subst e1 e3
  rcases h with h | ⟨b, off, rfl, hc⟩
  · left; rw [h]; rfl
  · right
    refine ⟨b, off, rfl, fun j u hu => ?_⟩
    unfold intsV at hu
    rw [List.getElem?_map] at hu
    cases hj : l[j]? with
    | none => rw [hj] at hu; cases hu
    | some x => rw [hj] at hu; cases hu; exact hc j x hj
theorem cell_node {W : World} {base g cap i : Nat} {ns : List PN} {qs : List Value} {n : PN} {q : Value} (h : W.ownsRow base 55 7 (.slice (some ⟨g, 0, none⟩) ns.length cap) ns.length (nodesC (ns.zip qs))) (hn : ns[i]? = some n) (hq : qs[i]? = some q) : W.cell? ⟨g, i * 7 + 1, none⟩ = some q := by
  have := h.cells rfl (i * 7 + 1) q (by rw [nodesC_at (zip_at hn hq) (by decide)]; rfl)
  rw [Addr.add_lit, Nat.zero_add] at this; exact this
/-- The append of a region that draws, onto nil. -/
theorem step_append_fresh {ops : Array Oper} {o : Oper} {a : Act} {w : World} {K : Act → World → Prop} {Q : Exit → Act → World → Prop} {E : Prop} (hgd : o.guard = none) (s x : Operand) (t : TypeId)
    (ho : o.op = .call { callee := .builtin .append, args := #[s, x], argTypes := #[t, t] })
    (base : Nat) (e : TypeId) (i : TypeInfo) (z : Value) (size bytes : Nat) (ht : Try.prog.underlying t = some (.slice e)) (hi : Try.prog.info? e = some i) (hz : i.zero = some z)
    (hsize : i.size = size) (hby : i.bytes = bytes) (hzs : z.cells.size = size) (hsz : 0 < size) (hs : a.eval s = .slice none 0 0)
    (ka : Option Addr) (m c : Nat) (news : List Value) (hx : a.eval x = .slice ka m c) (hl : news.length = m * size) (ha : m = 0 ∨ ∃ b off, ka = some ⟨b, off, none⟩ ∧ ∀ j u, news[j]? = some u → w.cell? ⟨b, off + j, none⟩ = some u) (h1 : ∀ u ∈ news, u.oneCell' = true)
    (h63 : m ≤ maxLen) (hbytes : m * bytes ≤ 140737488355328) (hbase : base ≤ w.heap.size)
    (h : ∀ a' cap' w', w'.ownsRow base e size (.slice a' m cap') m news → w.grownBy w' none → K (a.put o.dst (.slice a' m cap')) w') :
    if Region.wanted o (yielded ops a.tmps) = true then Oper.wp Try.prog o a w K Q else E := by
  have hw : Region.wanted o (yielded ops a.tmps) = true := by simp [Region.wanted, hgd]
  rw [if_pos hw]
  obtain ⟨v', w', hr, h2, h3, -⟩ := run_append_fresh (P := Try.prog) w base t o.type e i z size bytes ht hi hz hsize hby hzs hsz ka m c news hl ha h1 h63 hbytes hbase
  obtain ⟨a', cap', rfl⟩ : ∃ a' c', v' = .slice a' m c' := by
    rcases h2.2 with ⟨e, e0⟩ | ⟨g, cap, cur, e, -⟩
    · exact ⟨none, 0, by rw [e, e0]⟩
    · exact ⟨_, _, e⟩
  unfold Oper.wp execOp
  simp only [ho, resolve, invoke, builtin, Sem.run_bind, Sem.run_pure, Result.andThen_ok, List.map_toArray, List.map_cons, List.map_nil, hs, hx, hr]
  exact h a' cap' w' h2 h3
theorem nodesC_set : ∀ (ns : List PN) (qs : List Value) (i : Nat) (v : Value), qs.length = ns.length → i < ns.length → (nodesC (ns.zip qs)).set (i * 7 + 1) v = nodesC (ns.zip (qs.set i v))
  | [], _, i, v, _, h => absurd h (Nat.not_lt_zero _)
  | n :: ns, [], i, v, h, _ => by simp at h
  | n :: ns, q :: qs, 0, v, _, _ => rfl
  | n :: ns, q :: qs, i + 1, v, h, hi => by
    have ih := nodesC_set ns qs i v (by simpa using h) (by simpa using hi)
    show (nodeC (n, q) ++ nodesC (ns.zip qs)).set ((i + 1) * 7 + 1) v = nodeC (n, q) ++ nodesC (ns.zip (qs.set i v))
    rw [List.set_append_right (h := by show 7 ≤ _; omega), ← ih]
    congr 2
    show (i + 1) * 7 + 1 - 7 = _
    omega
theorem CloneAt.node {n0 C g cap i : Nat} {rv v : Value} {rs : List PR} {ns : List PN} {qs : List Value} {w0 W : World} (h : CloneAt n0 C rv (.slice (some ⟨g, 0, none⟩) ns.length cap) rs ns qs w0 W) (hq : qs.length = ns.length) (hi : i < ns.length) : CloneAt n0 C rv (.slice (some ⟨g, 0, none⟩) ns.length cap) rs ns (qs.set i v) w0 (W.setCell ⟨g, i * 7 + 1, none⟩ v) := by
  obtain ⟨h1, h2, h3, h4, h5⟩ := h
  have hk := Lib.ownsRow_kind h4 g rfl
  have hg := (h4.lt g rfl).1
  have hcg : C ≠ g := fun e => by
    subst e
    obtain ⟨c, fz, h6⟩ := hk
    unfold IsGram at h2
    rw [h2] at h6
    injection h6 with h6
    injection h6 with _ h6
    exact absurd h6 (by decide)
  refine ⟨h1, by unfold IsGram; rw [heap_setCell_other _ _ _ _ hcg]; exact h2, ownsRow_setCell_other h3 (row_ne h3 hk (by decide)) _, ?_, h5.setCell (p := ⟨g, i * 7 + 1, none⟩) hg _⟩
  have := (h4.stored (i * 7 + 1) v).1
  rw [nodesC_set ns qs i v hq hi] at this
  exact this
theorem KMix.step {n0 : Nat} {ns : List PN} {qs : List Value} {i : Nat} {w W W2 : World} {n : PN} {v : Value} {g base cap k : Nat} {xs : List Value} (h : KMix n0 ns qs i w W) (hb : Below W.heap.size W W2) (hn : ns[i]? = some n) (hv : W2.ownsRow n0 3 1 v n.kids.length (intsV n.kids)) (hr : W2.ownsRow base 55 7 (.slice (some ⟨g, 0, none⟩) k cap) k xs) (o : Nat) (u : Value) :
    KMix n0 ns (qs.set i v) (i + 1) w (W2.setCell ⟨g, o, none⟩ u) := fun j m q h1 h2 => by
  have hk := Lib.ownsRow_kind hr g rfl
  rw [List.getElem?_set] at h2
  by_cases e : i = j
  · subst e
    rw [if_pos rfl] at h2
    split at h2
    · cases h2
      rw [hn] at h1
      obtain rfl := Option.some.inj h1
      exact ⟨fun _ => ownsRow_setCell_other hv (row_ne hv hk (by decide)) _, fun h => absurd h (by omega)⟩
    · cases h2
  · rw [if_neg e] at h2
    obtain ⟨a1, a2⟩ := h j m q h1 h2
    refine ⟨fun hj => ?_, fun hj => a2 (by omega)⟩
    have := ownsRow_grown (a1 (by omega)) hb
    exact ownsRow_setCell_other this (row_ne this hk (by decide)) _
/-- What Clone returns: a grammar in memory of its own. -/
def CloneIs (rs : List PR) (ns : List PN) (w : World) (e : Ending) (w' : World) : Prop :=
  ∃ (rv nv : Value) (qs : List Value), e = .returned (.agg #[rv, nv]) ∧ qs.length = ns.length ∧ w'.ownsRow w.heap.size 70 2 rv rs.length (rulesC rs) ∧ w'.ownsRow w.heap.size 55 7 nv ns.length (nodesC (ns.zip qs)) ∧
    (∀ (j : Nat) (n : PN) (q : Value), ns[j]? = some n → qs[j]? = some q → w'.ownsRow w.heap.size 3 1 q n.kids.length (intsV n.kids)) ∧ Below w.heap.size w w'
theorem own_low {W : World} {base : Nat} {e : TypeId} {size n g : Nat} {v : Value} {xs : List Value} (h : W.ownsRow base e size v n xs) (hg : g < base) (u : Value) (o : Nat) : (W.setCell ⟨g, o, none⟩ u).ownsRow base e size v n xs := ownsRow_setCell_below h (a := ⟨g, o, none⟩) hg u
theorem own_mono {W : World} {base base' : Nat} {e : TypeId} {size n : Nat} {v : Value} {xs : List Value} (h : W.ownsRow base e size v n xs) (hb : base' ≤ base) : W.ownsRow base' e size v n xs :=
  ⟨h.1, h.2.elim Or.inl (fun ⟨g, cap, cur, hv, hg, r⟩ => Or.inr ⟨g, cap, cur, hv, Nat.le_trans hb hg, r⟩)⟩
theorem CloneIs.mk {C : Nat} {rv nv x y : Value} {rs : List PR} {ns : List PN} {qs : List Value} {w w0 wr : World} (h : CloneAt w0.heap.size C rv nv rs ns qs w0 wr) (hm : KMix w0.heap.size ns qs ns.length w wr) (hq : qs.length = ns.length) (hz : w.heap.size + 2 ≤ w0.heap.size) (hb : Below w.heap.size w wr) :
    CloneIs rs ns w (.returned (.agg #[rv, nv])) ((wr.setCell ⟨w.heap.size + 1, 0, none⟩ x).setCell ⟨w.heap.size + 1, 1, none⟩ y) := by
  obtain ⟨h1, h2, h3, h4, h5⟩ := h
  refine ⟨rv, nv, qs, rfl, hq, own_mono (own_low (own_low h3 (by omega) _ _) (by omega) _ _) (by omega), own_mono (own_low (own_low h4 (by omega) _ _) (by omega) _ _) (by omega), fun j n q a1 a2 => ?_, (hb.setCell (p := ⟨w.heap.size + 1, 0, none⟩) (Nat.le_succ _) _).setCell (p := ⟨w.heap.size + 1, 1, none⟩) (Nat.le_succ _) _⟩
  have := (hm j n q a1 a2).1 (List.getElem?_eq_some_iff.1 a1).1
  exact own_mono (own_low (own_low this (by omega) _ _) (by omega) _ _) (by omega)
set_option maxHeartbeats 8000000 in
set_option maxRecDepth 100000 in
theorem gclone_any (rv nv : Value) (rs : List PR) (ns : List PN) (w : World) (hR : RulesIn w rv rs) (hN : NodesAt w nv ns) (hrs : rs.length ≤ 1000000) (hns : ns.length ≤ 1000000) (hnm : ∀ r, r ∈ rs → r.name.size ≤ 2000000) (hkl : ∀ n, n ∈ ns → n.kids.length ≤ 1000000) :
    Calls Try.prog 40 #[.agg #[rv, nv]] w (CloneIs rs ns w) := by
  obtain ⟨ir, hir, hzr0, hzr1, hzr2⟩ := info_parts infoRule
  obtain ⟨ie, hie, hze0, hze1, hze2⟩ := info_parts infoNode
  obtain ⟨ra, rc, rfl, hrc⟩ := hR.cells
  obtain ⟨qs, na, nc, hql, rfl, hnc, hqk⟩ := hN.cells
  have hB0 := Lib.hid (two_new w)
  go_enter Try.func40, Try.ntmps40
  go_wp2_with fail
  obtain ⟨w0, hw0⟩ : ∃ w0, ((w.alloc (.cells #[.slice ra rs.length rc, .slice na ns.length nc] 36)).alloc (.cells #[.slice none 0 0, .slice none 0 0] 36)) = w0 := ⟨_, rfl⟩
  have hb0 : Below w.heap.size w w0 := by rw [← hw0]; exact hB0.out _ _
  have q0 : w0.cell? ⟨w.heap.size, 0, none⟩ = some (.slice ra rs.length rc) := by rw [← hw0]; simp
  have q1 : w0.cell? ⟨w.heap.size, 1, none⟩ = some (.slice na ns.length nc) := by rw [← hw0]; simp
  have hsz0 : w.heap.size + 2 = w0.heap.size := by rw [← hw0]; simp
  have z0 : w0.cell? ⟨w.heap.size + 1, 0, none⟩ = some (.slice none 0 0) := by rw [← hw0]; simp
  have z1 : w0.cell? ⟨w.heap.size + 1, 1, none⟩ = some (.slice none 0 0) := by rw [← hw0]; simp
  have zf : ∀ o, w0.frozen? ⟨w.heap.size + 1, o, none⟩ = false := fun o => by rw [← hw0]; simp
  rw [hw0]
  have hone : ∀ u ∈ nodesC (ns.zip qs), u.oneCell' = true := nodesC_one (fun i n q h1 h2 => by
    obtain ⟨⟨a, cap, rfl, -⟩, -⟩ := hqk i n q h1 h2
    exact ⟨_, _, _, rfl⟩)
  have hzl : (ns.zip qs).length = ns.length := by rw [List.length_zip, hql, Nat.min_self]
  have HRC := Lib.hid hrc
  have HNC := Lib.hid hnc
  have HQK := Lib.hid hqk
  have HB1 := Lib.hid hb0
  clear hw0 hrc hnc hqk hB0
  refine wp_region_on (by kernel_rfl) [1] (CLT w0.heap.size w.heap.size (.slice ra rs.length rc) (.slice na ns.length nc) rs.length ns.length (rulesC rs) (nodesC (ns.zip qs))) KeepG (CLS w0.heap.size rs.length ns.length (rulesC rs) (nodesC (ns.zip qs)) w0) (by kernel_rfl) (by kernel_rfl) (by kernel_rfl) (by kernel_rfl) (CLT_mono _ _ _ _ _ _ _ _) ?start ?steps ?done
  case start =>
    have old : ∀ g x y, w0.heap.size ≤ g → ¬ IsGram w0.drew g x y := fun g x y hg hx => by
      unfold IsGram at hx
      rw [Array.getElem?_eq_none (show w0.drew.heap.size ≤ g from hg)] at hx; cases hx
    exact ⟨(Below.refl _ _).drew, Nat.le_refl _, fun _ => old, fun g g' x y x' y' h1 h2 h3 h4 => absurd h3 (old g x y h1), fun h => by cases h⟩
  case steps =>
    refine ⟨?_, ?_, ?_, ?_, ?_, ?_, ?_, ?_, ?_, trivial⟩
    · intro L a W hL hj hS hk hd
      have p1 : a.eval (.tmp 1) = .pointer (some ⟨w.heap.size, 0, none⟩) := hk 1 (by simp)
      clear hk hd hj
      refine pay_plain rfl ?_
      exact on_value (.pointer (some ⟨w.heap.size, 0, none⟩)) (by generalize a.eval = ρ at *; simp [go_sem, p1]) rfl (KeepG.refl _) (hS.upd 0 (by decide) (by decide))
    · intro L a W hL hj hS hk hd
      have h8 : a.eval (.tmp 8) = .pointer (some ⟨w.heap.size, 0, none⟩) := hd 0 8 (by kernel_rfl)
      have c0 : W.cell? ⟨w.heap.size, 0, none⟩ = some (.slice ra rs.length rc) := by rw [(bcell hS.below).1 _ 0 (by omega)]; exact q0
      clear hk hd hj
      refine pay_plain rfl ?_
      exact on_value (.slice ra rs.length rc) (by generalize a.eval = ρ at *; simp [go_sem, h8, c0]) rfl (KeepG.refl _) (hS.upd 1 (by decide) (by decide))
    · intro L a W hL hj hS hk hd
      have h9 : a.eval (.tmp 9) = .slice ra rs.length rc := hd 1 9 (by kernel_rfl)
      clear hk hd hj
      refine pay_plain rfl ?_
      obtain ⟨v', w', hr, h1, h2, h3⟩ := run_append_fresh (P := Try.prog) W w0.heap.size 33 33 70 ir _ 2 24 Try.underlying33 hir hzr0 hzr1 hzr2 rfl (by decide) ra rs.length rc (rulesC rs) (rulesC_length rs)
        (HRC.out.imp id (fun ⟨b, off, e, hc⟩ => ⟨b, off, e, fun j u hu => by
          have hl := lt_of_cell (hc j u hu)
          rw [(bcell hS.below).1 _ _ (by omega), (bcell HB1.out).1 _ _ hl]; exact hc j u hu⟩)) (rulesC_one rs) (by unfold maxLen; omega) (by omega) hS.size
      exact on_append (.const (.slice none 0 0)) (.tmp 9) 33 rfl rfl h9 hr h1 (KeepG.of_grown h2) (hS.grown 2 (by decide) (by decide) h2 (by decide) h3)
    · intro L a W hL hj hS hk hd
      have p1 : a.eval (.tmp 1) = .pointer (some ⟨w.heap.size, 0, none⟩) := hk 1 (by simp)
      clear hk hd hj
      refine pay_plain rfl ?_
      exact on_value (.pointer (some ⟨w.heap.size, 1, none⟩)) (by generalize a.eval = ρ at *; simp [go_sem, p1]) rfl (KeepG.refl _) (hS.upd 3 (by decide) (by decide))
    · intro L a W hL hj hS hk hd
      have h8 : a.eval (.tmp 11) = .pointer (some ⟨w.heap.size, 1, none⟩) := hd 3 11 (by kernel_rfl)
      have c0 : W.cell? ⟨w.heap.size, 1, none⟩ = some (.slice na ns.length nc) := by rw [(bcell hS.below).1 _ 1 (by omega)]; exact q1
      clear hk hd hj
      refine pay_plain rfl ?_
      exact on_value (.slice na ns.length nc) (by generalize a.eval = ρ at *; simp [go_sem, h8, c0]) rfl (KeepG.refl _) (hS.upd 4 (by decide) (by decide))
    · intro L a W hL hj hS hk hd
      have h9 : a.eval (.tmp 12) = .slice na ns.length nc := hd 4 12 (by kernel_rfl)
      clear hk hd hj
      refine pay_plain rfl ?_
      obtain ⟨v', w', hr, h1, h2, h3⟩ := run_append_fresh (P := Try.prog) W w0.heap.size 34 34 55 ie _ 7 72 Try.underlying34 hie hze0 hze1 hze2 rfl (by decide) na ns.length nc (nodesC (ns.zip qs)) (by rw [nodesC_length, hzl])
        (HNC.out.imp id (fun ⟨b, off, e, hc⟩ => ⟨b, off, e, fun j u hu => by
          have hl := lt_of_cell (hc j u hu)
          rw [(bcell hS.below).1 _ _ (by omega), (bcell HB1.out).1 _ _ hl]; exact hc j u hu⟩)) hone (by unfold maxLen; omega) (by omega) hS.size
      exact on_append (.const (.slice none 0 0)) (.tmp 12) 34 rfl rfl h9 hr h1 (KeepG.of_grown h2) (hS.grown 5 (by decide) (by decide) h2 (by decide) h3)
    · intro L a W hL hj hS hk hd
      have h1 := hd 2 10 (by kernel_rfl)
      have h2 := hd 5 13 (by kernel_rfl)
      clear hk hd hj
      refine pay_plain rfl ?_
      obtain ⟨x, hx⟩ : ∃ x, a.eval (.tmp 10) = x := ⟨_, rfl⟩
      obtain ⟨y, hy⟩ : ∃ y, a.eval (.tmp 13) = y := ⟨_, rfl⟩
      rw [hx] at h1
      rw [hy] at h2
      have h1' : W.ownsRow w0.heap.size 70 2 x rs.length (rulesC rs) := h1
      have h2' : W.ownsRow w0.heap.size 55 7 y ns.length (nodesC (ns.zip qs)) := h2
      obtain ⟨a1, b1, hx1⟩ : ∃ a c, x = .slice a rs.length c := by
        rcases h1'.2 with ⟨e, e0⟩ | ⟨g, cap, cur, e, -⟩
        · exact ⟨none, 0, by rw [e, e0]⟩
        · exact ⟨_, _, e⟩
      obtain ⟨a2, b2, hy1⟩ : ∃ a c, y = .slice a ns.length c := by
        rcases h2'.2 with ⟨e, e0⟩ | ⟨g, cap, cur, e, -⟩
        · exact ⟨none, 0, by rw [e, e0]⟩
        · exact ⟨_, _, e⟩
      exact on_value (.agg #[x, y]) (by subst hx1 hy1; generalize a.eval = ρ at *; simp [go_sem, hx, hy]) ⟨x, y, rfl, h1', h2'⟩ (KeepG.refl _) (hS.upd 6 (by decide) (by decide))
    · intro L a W hL hj hS hk hd
      have e8 : L 8 = false := hj 8 (by kernel_rfl)
      clear hk hd hj
      refine pay_plain rfl ?_
      exact on_value' (.pointer (some ⟨W.heap.size, 0, none⟩)) (w' := W.alloc (.cells #[.slice none 0 0, .slice none 0 0] 36)) (by generalize a.eval = ρ at *; simp [go_sem]) ⟨_, rfl, hS.size, _, _, heap_alloc_new W _⟩ (KeepG.of_grown (World.grownBy_alloc W _ _)) (hS.alloc hL e8 _ _)
    · intro L a W hL hj hS hk hd
      obtain ⟨g, hg, hgn, x0, y0, hgg⟩ := hd 7 3 (by kernel_rfl)
      obtain ⟨x, y, hxy, h1, h2⟩ := hd 6 14 (by kernel_rfl)
      clear hk hd hj
      obtain ⟨a1, b1, rfl⟩ : ∃ a c, x = .slice a rs.length c := by
        rcases h1.2 with ⟨e, e0⟩ | ⟨g, cap, cur, e, -⟩
        · exact ⟨none, 0, by rw [e, e0]⟩
        · exact ⟨_, _, e⟩
      obtain ⟨a2, b2, rfl⟩ : ∃ a c, y = .slice a ns.length c := by
        rcases h2.2 with ⟨e, e0⟩ | ⟨g, cap, cur, e, -⟩
        · exact ⟨none, 0, by rw [e, e0]⟩
        · exact ⟨_, _, e⟩
      have c0 : W.cell? ⟨g, 0, none⟩ = some x0 := by unfold IsGram at hgg; simp [World.cell?, hgg]
      have c1 : W.cell? ⟨g, 1, none⟩ = some y0 := by unfold IsGram at hgg; simp [World.cell?, hgg]
      have f0 : ∀ o, W.frozen? ⟨g, o, none⟩ = false := fun o => by unfold IsGram at hgg; simp [World.frozen?, hgg]
      refine pay_plain rfl ?_
      have hS2 := hS.store hgn hgg h1 h2
      have hK2 := KeepG.store hgg (.slice a1 rs.length b1) (.slice a2 ns.length b2)
      refine on_skip (w' := (W.setCell ⟨g, 0, none⟩ (.slice a1 rs.length b1)).setCell ⟨g, 1, none⟩ (.slice a2 ns.length b2)) ?_ trivial hK2 hS2
      clear hS2 hK2 h1 h2
      generalize a.eval = ρ at *
      simp [go_sem, hg, hxy, c0, c1, f0]
  case done =>
    intro vals w3 hv hS
    obtain ⟨L, hL, hS⟩ := hS
    obtain ⟨C, hC, hCn, rv, nv, hgr⟩ := hv 7 (by simp)
    obtain ⟨how1, how2⟩ := hS.last (hL 8 (by simp)) C rv nv hCn hgr
    have hb3 := hS.below
    clear hS hv
    simp only [fill, if_true, Act.put, List.setIfInBounds_toArray, List.set_cons_zero, List.set_cons_succ, Nat.zero_add, Nat.reduceAdd]
    rw [hC]
    have hCA : CloneAt w0.heap.size C rv nv rs ns qs w0 w3 := ⟨hCn, hgr, how1, how2, hb3⟩
    have d0 := hCA.cell0
    have d1 := hCA.cell1
    have HCA := Lib.hid hCA
    have HNM := Lib.hid hnm
    have HKL := Lib.hid hkl
    obtain ⟨rg, rcap, hrv⟩ : ∃ a c, rv = .slice a rs.length c := by
      rcases how1.2 with ⟨e, e0⟩ | ⟨g, cap, cur, e, -⟩
      · exact ⟨none, 0, by rw [e, e0]⟩
      · exact ⟨_, _, e⟩
    obtain ⟨ng, ncap, hnv⟩ : ∃ a c, nv = .slice a ns.length c := by
      rcases how2.2 with ⟨e, e0⟩ | ⟨g, cap, cur, e, -⟩
      · exact ⟨none, 0, by rw [e, e0]⟩
      · exact ⟨_, _, e⟩
    subst hrv hnv
    clear hCA hgr how1 how2 hb3 hC hL hone hzl hnm hkl
    go_wp2
    go_loopw [18] (fun c wr => ∃ i : Nat, i ≤ rs.length ∧ c = .int .i64 i ∧ CloneAt w0.heap.size C (.slice rg rs.length rcap) (.slice ng ns.length ncap) rs ns qs w0 wr) (fun c _ => rs.length - (intOf c).toNat)
    case atStart => exact ⟨0, Nat.zero_le _, rfl, HCA.out⟩
    case round =>
      obtain ⟨i, hi, rfl, hca⟩ := hrel
      have HC1 := Lib.hid hca
      by_cases hlt : i < rs.length
      · obtain ⟨r, hr⟩ : ∃ r, rs[i]? = some r := ⟨_, List.getElem?_eq_getElem hlt⟩
        obtain ⟨g, cap, hsl, -, -⟩ := World.ownsRow.form hca.2.2.1 (by omega)
        injection hsl with hs1 _ hs3
        subst hs1 hs3
        have d0 := hca.cell0
        have d1 := hca.cell1
        have hlc := hca.lt
        have hlg := (hca.2.2.1.lt g rfl).2
        have c0 : wr.cell? ⟨g, i * 2, none⟩ = some (.string r.name) := by
          have := hca.2.2.1.cells rfl (i * 2 + 0) _ (rulesC_at (j := 0) hr (by decide))
          rw [Addr.add_lit, Nat.zero_add] at this; exact this
        have c1 : wr.cell? ⟨g, i * 2 + 1, none⟩ = some (.int .i64 r.root) := by
          have := hca.2.2.1.cells rfl (i * 2 + 1) _ (rulesC_at (j := 1) hr (by decide))
          rw [Addr.add_lit, Nat.zero_add] at this; exact this
        have k1 : (i : Int) < (rs.length : Int) := by omega
        have HR := Lib.hid hr
        have HSZ := Lib.hid (HNM.out r (List.mem_of_getElem? hr))
        clear hca hr
        go_wp2
        obtain ⟨W1, hW1⟩ : ∃ W1, wr.alloc (.cells #[.string r.name, .int .i64 r.root] 70) = W1 := ⟨_, rfl⟩
        have e0 : W1.cell? ⟨wr.heap.size, 0, none⟩ = some (.string r.name) := by rw [← hW1]; simp
        have hb1 : Below wr.heap.size wr W1 := by rw [← hW1]; exact one_new wr _
        have hl1 : wr.heap.size < W1.heap.size := by rw [← hW1]; simp
        rw [hW1]
        have HC2 := Lib.hid (HC1.out.kept hb1)
        have d0 := HC2.out.cell0
        have HLC2 := Lib.hid HC2.out.lt
        clear hW1 hb1 c0 c1 d1
        go_region_with (first | (go_at_call 32; (with_reducible refine (clone_any r.name _ HSZ.out).mono ?_); rintro e w2 ⟨rfl, hb⟩; have HC3 := Lib.hid ((HC2.out.kept (below_drew1 W1)).kept hb); have d0' := HC3.out.cell0; have hst := HC3.out.2.2.1; have c0' := cell_row hst HR.out; have f0' := frozen_row hst; clear hb hst))
        all_goals
          go_wp2
          go_roundw
          case rel => exact ⟨i + 1, by omega, by go_num, HC3.out.rule HR.out⟩
          case measure => simp [intOf]; omega
      · obtain rfl : i = rs.length := by omega
        have k1 : ¬ (rs.length : Int) < (rs.length : Int) := by omega
        have d0 := hca.cell0
        have d1 := hca.cell1
        clear hca
        go_wp2
        go_loopw [35] (fun c wr => ∃ (i : Nat) (qs : List Value), i ≤ ns.length ∧ c = .int .i64 i ∧ qs.length = ns.length ∧ CloneAt w0.heap.size C (.slice rg rs.length rcap) (.slice ng ns.length ncap) rs ns qs w0 wr ∧ KMix w0.heap.size ns qs i w wr) (fun c _ => ns.length - (intOf c).toNat)
        case atStart => exact ⟨0, qs, Nat.zero_le _, rfl, hql, HC1.out, fun j n q h1 h2 => ⟨fun h => absurd h (Nat.not_lt_zero _), fun _ => (HQK.out j n q h1 h2).1⟩⟩
        case round =>
          obtain ⟨i, qs2, hi2, rfl, hql2, hca, hmix⟩ := hrel
          have HC1 := Lib.hid hca
          have HMX := Lib.hid hmix
          by_cases hlt : i < ns.length
          · obtain ⟨n, hn⟩ : ∃ n, ns[i]? = some n := ⟨_, List.getElem?_eq_getElem hlt⟩
            obtain ⟨q, hq⟩ : ∃ q, qs2[i]? = some q := ⟨_, List.getElem?_eq_getElem (by omega)⟩
            have hqi := (hmix i n q hn hq).2 (Nat.le_refl _)
            obtain ⟨g, cap, hsl, -, -⟩ := World.ownsRow.form hca.2.2.2.1 (by omega)
            injection hsl with hs1 _ hs3
            subst hs1 hs3
            have hbww : Below w.heap.size w wr := HB1.out.trans (hca.2.2.2.2.mono (by omega))
            have HQI := Lib.hid (hqi.kept hbww (Nat.le_refl _))
            obtain ⟨ka, kc, rfl, -⟩ := hqi
            have d1 := hca.cell1
            have hlc := hca.lt
            have hlg := (hca.2.2.2.1.lt g rfl).2
            have hc : ∀ j u, j < 7 → (nodeC (n, .slice ka n.kids.length kc))[j]? = some u → wr.cell? ⟨g, i * 7 + j, none⟩ = some u := fun j u hj hu => by
              have := hca.2.2.2.1.cells rfl (i * 7 + j) u (by rw [nodesC_at (zip_at hn hq) hj]; exact hu)
              rw [Addr.add_lit, Nat.zero_add] at this; exact this
            have c0 : wr.cell? ⟨g, i * 7, none⟩ = some (.int .i64 n.op) := hc 0 _ (by decide) rfl
            have c1 := hc 1 _ (by decide) rfl
            have c2 := hc 2 _ (by decide) rfl
            have c3 := hc 3 _ (by decide) rfl
            have c4 := hc 4 _ (by decide) rfl
            have c5 := hc 5 _ (by decide) rfl
            have c6 := hc 6 _ (by decide) rfl
            have k1 : (i : Int) < (ns.length : Int) := by omega
            have HN := Lib.hid hn
            have HQ := Lib.hid hq
            have hkn := HKL.out n (List.mem_of_getElem? hn)
            clear hca hn hq hmix hc hbww
            go_wp2
            obtain ⟨W1, hW1⟩ : ∃ W1, wr.alloc (.cells #[.int .i64 n.op, .slice ka n.kids.length kc, .int .i64 n.rule, .int .u64 n.s0, .int .u64 n.s1, .int .u64 n.s2, .int .u64 n.s3] 55) = W1 := ⟨_, rfl⟩
            have e1 : W1.cell? ⟨wr.heap.size, 1, none⟩ = some (.slice ka n.kids.length kc) := by rw [← hW1]; simp
            have hb1 : Below wr.heap.size wr W1 := by rw [← hW1]; exact one_new wr _
            have hl1 : wr.heap.size < W1.heap.size := by rw [← hW1]; simp
            rw [hW1]
            have HC2 := Lib.hid (HC1.out.kept hb1)
            have d1 := HC2.out.cell1
            have HLC2 := Lib.hid HC2.out.lt
            have HBW := Lib.hid hb1
            have HQ2 := Lib.hid (HQI.out.kept hb1 (Nat.le_refl _))
            clear hW1 hb1 c0 c1 c2 c3 c4 c5 c6
            obtain ⟨ii, hii, hzi0, hzi1, hzi2⟩ := info_parts infoInt
            go_region_law (refine step_append_fresh rfl (.const (.slice none 0 0)) (.tmp 44) 53 rfl w0.heap.size 3 ii (.int .i64 0) 1 8 Try.underlying53 hii hzi0 hzi1 hzi2 rfl (by decide) rfl ka n.kids.length kc (intsV n.kids) (by simp [Act.eval]) (by rw [intsV_length, Nat.mul_one]) (HQ2.out.src) (ints_oneCell .i64 n.kids) (by unfold maxLen; omega) (by omega) (by have := HLC2.out; have := HC2.out.1; show _ ≤ W1.heap.size; omega) ?_; intro a' cap' w2 hown hgrow; have hb2 := below_of_grown hgrow; have HC3 := Lib.hid ((HC2.out.kept (below_drew1 W1)).kept hb2); have HB2 := Lib.hid hb2; have HO := Lib.hid hown; have d1' := HC3.out.cell1; have c1' := cell_node HC3.out.2.2.2.1 HN.out HQ.out; have f1' := frozen_row HC3.out.2.2.2.1; clear hb2 hown hgrow)
            all_goals
              go_wp2
              go_roundw
              case rel => exact ⟨i + 1, qs2.set i (.slice a' n.kids.length cap'), by omega, by go_num, by rw [List.length_set]; exact hql2, HC3.out.node hql2 hlt, HMX.out.step ((HBW.out.trans ((below_drew1 W1).mono HBW.out.size)).trans (HB2.out.mono HBW.out.size)) HN.out HO.out HC3.out.2.2.2.1 _ _⟩
              case measure => simp [intOf]; omega
          · obtain rfl : i = ns.length := by omega
            have k1 : ¬ (ns.length : Int) < (ns.length : Int) := by omega
            have d0 := hca.cell0
            have d1 := hca.cell1
            have hbww : Below w.heap.size w wr := HB1.out.trans (hca.2.2.2.2.mono (by omega))
            have hD : ∀ o, wr.heap[w.heap.size + 1]? = some o → True := fun _ _ => trivial
            have g0 := (bcell hca.2.2.2.2).1 (w.heap.size + 1) 0 (by omega)
            have g1 := (bcell hca.2.2.2.2).1 (w.heap.size + 1) 1 (by omega)
            have gf := fun o => (bcell hca.2.2.2.2).2 (w.heap.size + 1) o (by omega)
            rw [z0] at g0
            rw [z1] at g1
            simp only [zf] at gf
            have hDC : w.heap.size + 1 ≠ C := by have := hca.1; omega
            have HBW := Lib.hid hbww
            have HLC := Lib.hid hca.lt
            clear hca hmix hbww hD
            go_wp2
            have hr0 : ((wr.setCell ⟨w.heap.size + 1, 0, none⟩ (.slice rg rs.length rcap)).setCell ⟨w.heap.size + 1, 1, none⟩ (.slice ng ns.length ncap)).cell? ⟨w.heap.size + 1, 0, none⟩ = some (.slice rg rs.length rcap) := by
              rw [World.cell?_setCell_other (h := by intro hh; injection hh with _ h2; cases h2), World.cell?_setCell_same' _ _ _ (by rw [g0]; rfl)]
            have hr1 : ((wr.setCell ⟨w.heap.size + 1, 0, none⟩ (.slice rg rs.length rcap)).setCell ⟨w.heap.size + 1, 1, none⟩ (.slice ng ns.length ncap)).cell? ⟨w.heap.size + 1, 1, none⟩ = some (.slice ng ns.length ncap) := by
              rw [World.cell?_setCell_same' _ _ _ (by rw [World.cell?_setCell_other (h := by intro hh; injection hh with _ h2; cases h2), g1]; rfl)]
            refine bodyPost_ret (v := .agg #[.slice rg rs.length rcap, .slice ng ns.length ncap]) (by simp [results, Try.results40, go_sem, hr0, hr1]) rfl (CloneIs.mk HC1.out HMX.out hql2 (by omega) HBW.out)
end Go.Proofs.Ytnebdnonkefloaa
