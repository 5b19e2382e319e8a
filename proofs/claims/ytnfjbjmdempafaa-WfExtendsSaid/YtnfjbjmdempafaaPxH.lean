/- gram.Clone: the region that copies both slices. The reference's Copy. -/
import Derived.Deep.RegionWith
import Derived.Deep.RegionLaw
import Derived.Deep.AppendLies
import Derived.Deep.Cut
import Derived.Test.YtnfjbjmdempafaaPxGramOwnRow
namespace Go.Proofs.Ytnfjbjmdempafaa
open Go.RowKit
/-- Block g is a grammar's. -/
def IsGram (W : World) (g : Nat) (x y : Value) : Prop := W.heap[g]? = some (.cells #[x, y] 25 (0, 0))
/-- Blocks stay as they are, but for grammars, which stay grammars. -/
def KeepG (w w' : World) : Prop := w.heap.size ≤ w'.heap.size ∧ ∀ b, b < w.heap.size → w'.heap[b]? = w.heap[b]? ∨ ((∃ x y, IsGram w b x y) ∧ ∃ x y, IsGram w' b x y)
theorem KeepG.refl (w : World) : KeepG w w := ⟨Nat.le_refl _, fun _ _ => .inl rfl⟩
theorem KeepG.of_grown {w w' : World} (h : w.grownBy w' none) : KeepG w w' := ⟨h.size, fun b hb => .inl (h.block b hb (by simp))⟩
theorem KeepG.own {w w' : World} (h : KeepG w w') {base : Nat} {e : TypeId} {size : Nat} {v : Value} {n : Nat} {xs : List Value} (hv : w.ownsRow base e size v n xs) (he : e ≠ 25) : w'.ownsRow base e size v n xs := by
  obtain ⟨h1, h2⟩ := hv
  refine ⟨h1, ?_⟩
  rcases h2 with h2 | ⟨g, cap, cur, hv, hg, hh, r⟩
  · exact .inl h2
  · refine .inr ⟨g, cap, cur, hv, hg, ?_, r⟩
    have hl : g < w.heap.size := (Array.getElem?_eq_some_iff.1 hh).1
    rcases h.2 g hl with h3 | ⟨⟨x, y, h3⟩, -⟩
    · rw [h3]; exact hh
    · unfold IsGram at h3
      rw [h3] at hh
      injection hh with hh
      injection hh with _ hh
      exact absurd hh.symm he
section
variable (n0 B0 : Nat) (ru nu : Value) (rn nn : Nat) (rc nc : List Value)
structure CLS (w0 : World) (L : Nat → Bool) (W : World) : Prop where
  below : Below n0 w0 W
  size : n0 ≤ W.heap.size
  free : L 7 = false → ∀ g x y, n0 ≤ g → ¬ IsGram W g x y
  one : ∀ g g' x y x' y', n0 ≤ g → n0 ≤ g' → IsGram W g x y → IsGram W g' x' y' → g = g'
  last : L 8 = true → ∀ g x y, n0 ≤ g → IsGram W g x y → W.ownsRow n0 48 2 x rn rc ∧ W.ownsRow n0 35 7 y nn nc
variable {n0 B0 ru nu rn nn rc nc}
theorem gram_old {W W' : World} (hg : W.grownBy W' Option.none) {t : TypeId} (ht : t ≠ 25) (hn : ∀ b o, W.heap.size ≤ b → W'.heap[b]? = some o → ∃ cs, o = .cells cs t (0, 0)) {g : Nat} {x y : Value} (h : IsGram W' g x y) : IsGram W g x y := by
  rcases Nat.lt_or_ge g W.heap.size with hl | hl
  · unfold IsGram at *; rw [← hg.block g hl (by simp)]; exact h
  · obtain ⟨cs, hc⟩ := hn g _ hl h
    injection hc with _ hc
    exact absurd hc.symm ht
theorem CLS.grown {w0 : World} {L : Nat → Bool} {W W' : World} (h : CLS n0 rn nn rc nc w0 L W) (k : Nat) (hk : k ≠ 7) (hk8 : k ≠ 8) (hg : W.grownBy W' Option.none) {t : TypeId} (ht : t ≠ 25) (hn : ∀ b o, W.heap.size ≤ b → W'.heap[b]? = some o → ∃ cs, o = .cells cs t (0, 0)) : CLS n0 rn nn rc nc w0 (fun j => if j = k then true else L j) W' :=
  ⟨h.below.grown hg h.size (fun k e => by cases e), Nat.le_trans h.size hg.size,
    fun h7 g x y hn0 hx => h.free (by rw [if_neg (fun e => hk e.symm)] at h7; exact h7) g x y hn0 (gram_old hg ht hn hx),
    fun g g' x y x' y' h1 h2 h3 h4 => h.one g g' x y x' y' h1 h2 (gram_old hg ht hn h3) (gram_old hg ht hn h4),
    fun h8 g x y h1 h2 => by
      have := h.last (by rw [if_neg (fun e => hk8 e.symm)] at h8; exact h8) g x y h1 (gram_old hg ht hn h2)
      exact ⟨(KeepG.of_grown hg).own this.1 (by decide), (KeepG.of_grown hg).own this.2 (by decide)⟩⟩
theorem CLS.alloc {w0 : World} {L : Nat → Bool} {W : World} (h : CLS n0 rn nn rc nc w0 L W) (h7 : L 7 = false) (h8 : L 8 = false) (x y : Value) : CLS n0 rn nn rc nc w0 (fun j => if j = 7 then true else L j) (W.alloc (.cells #[x, y] 25)) := by
  have old : ∀ g x' y', n0 ≤ g → IsGram (W.alloc (.cells #[x, y] 25)) g x' y' → g = W.heap.size := fun g x' y' hn hx => by
    rcases Nat.lt_trichotomy g W.heap.size with hl | hl | hl
    · have : IsGram W g x' y' := by unfold IsGram at *; rw [← Below.heap_alloc W (.cells #[x, y] 25) g hl]; exact hx
      exact absurd this (h.free h7 g x' y' hn)
    · exact hl
    · unfold IsGram at hx
      rw [Array.getElem?_eq_none (by rw [World.size_alloc]; omega)] at hx
      cases hx
  exact ⟨h.below.alloc h.size _, by rw [World.size_alloc]; exact Nat.le_succ_of_le h.size, fun e => by simp at e, fun g g' x y x' y' h1 h2 h3 h4 => by rw [old g _ _ h1 h3, old g' _ _ h2 h4], fun e => by rw [if_neg (by decide)] at e; rw [h8] at e; cases e⟩
theorem isGram_store {W : World} {g : Nat} {x0 y0 : Value} (hg : IsGram W g x0 y0) (x y : Value) : IsGram ((W.setCell ⟨g, 0, none⟩ x).setCell ⟨g, 1, none⟩ y) g x y := by
  have h1 := heap_setCell_same W g 0 #[x0, y0] 25 x hg
  have h2 := heap_setCell_same (W.setCell ⟨g, 0, none⟩ x) g 1 _ 25 y h1
  unfold IsGram
  rw [h2]
  simp
theorem isGram_other {W : World} {g k : Nat} {x y x' y' : Value} (hk : k ≠ g) : IsGram ((W.setCell ⟨g, 0, none⟩ x).setCell ⟨g, 1, none⟩ y) k x' y' ↔ IsGram W k x' y' := by
  unfold IsGram
  rw [heap_setCell_other _ _ _ _ hk, heap_setCell_other _ _ _ _ hk]
theorem KeepG.store {W : World} {g : Nat} {x0 y0 : Value} (hg : IsGram W g x0 y0) (x y : Value) : KeepG W ((W.setCell ⟨g, 0, none⟩ x).setCell ⟨g, 1, none⟩ y) := by
  refine ⟨by simp, fun b _ => ?_⟩
  by_cases hb : b = g
  · subst hb; exact .inr ⟨⟨_, _, hg⟩, _, _, isGram_store hg x y⟩
  · left; rw [heap_setCell_other _ _ _ _ hb, heap_setCell_other _ _ _ _ hb]
theorem CLS.store {w0 : World} {L : Nat → Bool} {W : World} (h : CLS n0 rn nn rc nc w0 L W) {g : Nat} {x0 y0 x y : Value} (hn : n0 ≤ g) (hg : IsGram W g x0 y0) (h1 : W.ownsRow n0 48 2 x rn rc) (h2 : W.ownsRow n0 35 7 y nn nc) :
    CLS n0 rn nn rc nc w0 (fun j => if j = 8 then true else L j) ((W.setCell ⟨g, 0, none⟩ x).setCell ⟨g, 1, none⟩ y) := by
  have hk := KeepG.store hg x y
  have old : ∀ k x' y', IsGram ((W.setCell ⟨g, 0, none⟩ x).setCell ⟨g, 1, none⟩ y) k x' y' → ∃ x y, IsGram W k x y := fun k x' y' hx => by
    by_cases e : k = g
    · subst e; exact ⟨_, _, hg⟩
    · exact ⟨_, _, (isGram_other e).1 hx⟩
  refine ⟨(h.below.setCell (p := ⟨g, 0, none⟩) hn x).setCell (p := ⟨g, 1, none⟩) hn y, by simpa using h.size, fun h7 => ?_, fun k k' x y x' y' a1 a2 a3 a4 => ?_, fun _ k x' y' a1 a2 => ?_⟩
  · exact absurd hg (h.free (by rw [if_neg (by decide)] at h7; exact h7) g _ _ hn)
  · obtain ⟨_, _, b3⟩ := old k _ _ a3
    obtain ⟨_, _, b4⟩ := old k' _ _ a4
    exact h.one k k' _ _ _ _ a1 a2 b3 b4
  · obtain ⟨_, _, b2⟩ := old k _ _ a2
    obtain rfl := h.one k g _ _ _ _ a1 hn b2 hg
    have := isGram_store hg x y
    unfold IsGram at this a2
    rw [this] at a2
    have e := (Option.some.inj a2)
    injection e with e
    simp at e
    obtain ⟨rfl, rfl⟩ := e
    exact ⟨hk.own h1 (by decide), hk.own h2 (by decide)⟩
end
theorem infoRule : (Try.prog.info? 48).map (fun i => (i.zero, i.size, i.bytes)) = some (some (.agg #[.string ⟨#[]⟩, .int .i64 0]), 2, 24) := by kernel_rfl
theorem infoNode : (Try.prog.info? 35).map (fun i => (i.zero, i.size, i.bytes)) = some (some (.agg #[.int .i64 0, .slice none 0 0, .int .i64 0, .int .u64 0, .int .u64 0, .int .u64 0, .int .u64 0]), 7, 72) := by kernel_rfl
/-- The step of an append onto nil in such a region. -/
theorem on_append {o : Oper} {a : Act} {w : World} {T : Nat → Value → World → Prop} {i : Nat} {R : World → World → Prop} {S : World → Prop} {Q : Exit → Act → World → Prop} (s x : Operand) (t : TypeId)
    (ho : o.op = .call { callee := .builtin .append, args := #[s, x], argTypes := #[t, t] }) {sv xv : Value} (hs : a.eval s = sv) (hx : a.eval x = xv) {v : Value} {w' : World} (hr : (Builtin.append_ #[t, t] o.type #[sv, xv]).run Try.prog w = .ok v w') (hT : T i v w') (hR : R w w') (hS : S w') :
    o.wp Try.prog a w (fun a' w' => ∃ v, a' = a.put o.dst v ∧ T i v w' ∧ R w w' ∧ S w') Q := by
  unfold Oper.wp execOp
  simp only [ho, resolve, invoke, builtin, Sem.run_bind, Sem.run_pure, Result.andThen_ok, List.map_toArray, List.map_cons, List.map_nil, hs, hx, hr]
  exact ⟨v, rfl, hT, hR, hS⟩
theorem on_value' {P : Program} {o : Oper} {a : Act} {w w' : World} {T : Nat → Value → World → Prop} {i : Nat} {R : World → World → Prop} {S : World → Prop} {Q : Exit → Act → World → Prop} (v : Value) (hv : (execOp a.eval o).run P w = .ok (.value v) w') (hT : T i v w') (hR : R w w') (hS : S w') :
    o.wp P a w (fun a' w' => ∃ v, a' = a.put o.dst v ∧ T i v w' ∧ R w w' ∧ S w') Q := by
  unfold Oper.wp
  rw [hv]
  exact ⟨v, rfl, hT, hR, hS⟩
/-- A clone as it grows: the block of its two slices, the rows of rules and nodes, its kids. -/
def CloneAt (n0 C : Nat) (rv nv : Value) (rs : List PR) (ns : List PN) (qs : List Value) (w0 W : World) : Prop :=
  n0 ≤ C ∧ IsGram W C rv nv ∧ W.ownsRow n0 48 2 rv rs.length (rulesC rs) ∧ W.ownsRow n0 35 7 nv ns.length (nodesC (ns.zip qs)) ∧ Below n0 w0 W
section
variable {n0 C : Nat} {rv nv : Value} {rs : List PR} {ns : List PN} {qs : List Value} {w0 W W' : World}
theorem CloneAt.kept (h : CloneAt n0 C rv nv rs ns qs w0 W) (hb : Below W.heap.size W W') : CloneAt n0 C rv nv rs ns qs w0 W' := by
  obtain ⟨h1, h2, h3, h4, h5⟩ := h
  have hl : C < W.heap.size := (Array.getElem?_eq_some_iff.1 h2).1
  have hn : n0 ≤ W.heap.size := by omega
  exact ⟨h1, by unfold IsGram; rw [hb.block C hl]; exact h2, ownsRow_grown h3 hb, ownsRow_grown h4 hb, h5.trans (hb.mono hn)⟩
theorem CloneAt.cell1 (h : CloneAt n0 C rv nv rs ns qs w0 W) : W.cell? ⟨C, 1, none⟩ = some nv := by have := h.2.1; unfold IsGram at this; simp [World.cell?, this]
theorem CloneAt.lt (h : CloneAt n0 C rv nv rs ns qs w0 W) : C < W.heap.size := (Array.getElem?_eq_some_iff.1 h.2.1).1
theorem row_ne {base : Nat} {e e' : TypeId} {size : Nat} {v : Value} {n : Nat} {xs : List Value} {g : Nat} (h : W.ownsRow base e size v n xs) (hg : ∃ c fz, W.heap[g]? = some (.cells c e' fz)) (he : e ≠ e') : v.ownBlock ≠ some g := fun hb => by
  obtain ⟨c, fz, h1⟩ := Lib.ownsRow_kind h g hb
  obtain ⟨c', fz', h2⟩ := hg
  rw [h1] at h2
  injection h2 with h2
  injection h2 with _ h2
  exact he h2
theorem set_same {l : List Value} {j : Nat} {u : Value} (h : l[j]? = some u) : l.set j u = l := by
  obtain ⟨hj, rfl⟩ := List.getElem?_eq_some_iff.1 h
  exact List.set_getElem_self hj
theorem CloneAt.rule {g cap i : Nat} {r : PR} (h : CloneAt n0 C (.slice (some ⟨g, 0, none⟩) rs.length cap) nv rs ns qs w0 W) (hr : rs[i]? = some r) : CloneAt n0 C (.slice (some ⟨g, 0, none⟩) rs.length cap) nv rs ns qs w0 (W.setCell ⟨g, i * 2, none⟩ (.string r.name)) := by
  obtain ⟨h1, h2, h3, h4, h5⟩ := h
  have hk := Lib.ownsRow_kind h3 g rfl
  have hg := (h3.lt g rfl).1
  have hcg : C ≠ g := fun e => by
    subst e
    obtain ⟨c, fz, h6⟩ := hk
    unfold IsGram at h2
    rw [h2] at h6
    injection h6 with h6
    injection h6 with _ h6
    exact absurd h6 (by decide)
  refine ⟨h1, by unfold IsGram; rw [heap_setCell_other _ _ _ _ hcg]; exact h2, ?_, ownsRow_setCell_other h4 (row_ne h4 hk (by decide)) _, h5.setCell (p := ⟨g, i * 2, none⟩) hg _⟩
  have := (h3.stored (i * 2 + 0) (.string r.name)).1
  rw [set_same (rulesC_at (j := 0) hr (by decide))] at this
  exact this
end
/-- The kids: the first i are the call's own, the others as they came. -/
def KMix (n0 : Nat) (ns : List PN) (qs : List Value) (i : Nat) (w W : World) : Prop := ∀ (j : Nat) (n : PN) (q : Value), ns[j]? = some n → qs[j]? = some q → (j < i → W.ownsRow n0 3 1 q n.kids.length (intsV n.kids)) ∧ (i ≤ j → IntsAt w q n.kids)
theorem below_of_grown {w w' : World} (h : w.grownBy w' none) : Below w.heap.size w w' := ⟨h.os, h.tape, h.output, h.size, fun k hk => h.block k hk (by simp)⟩
theorem IntsAt.src {w : World} {a : Option Addr} {c : Nat} {l : List Int} (h : IntsAt w (.slice a l.length c) l) : l.length = 0 ∨ ∃ b off, a = some ⟨b, off, none⟩ ∧ ∀ j u, (intsV l)[j]? = some u → w.cell? ⟨b, off + j, none⟩ = some u := by
  obtain ⟨a', c', e, h⟩ := h
  injection e with e1 _ e3
  subst e1 e3
  rcases h with h | ⟨b, off, rfl, hc⟩
  · left; rw [h]; rfl
  · right
    refine ⟨b, off, rfl, fun j u hu => ?_⟩
    unfold intsV at hu
    rw [List.getElem?_map] at hu
    cases hj : l[j]? with
    | none => rw [hj] at hu; cases hu
    | some x => rw [hj] at hu; cases hu; exact hc j x hj
theorem KMix.step {n0 : Nat} {ns : List PN} {qs : List Value} {i : Nat} {w W W2 : World} {n : PN} {v : Value} {g base cap k : Nat} {xs : List Value} (h : KMix n0 ns qs i w W) (hb : Below W.heap.size W W2) (hn : ns[i]? = some n) (hv : W2.ownsRow n0 3 1 v n.kids.length (intsV n.kids)) (hr : W2.ownsRow base 35 7 (.slice (some ⟨g, 0, none⟩) k cap) k xs) (o : Nat) (u : Value) :
    KMix n0 ns (qs.set i v) (i + 1) w (W2.setCell ⟨g, o, none⟩ u) := fun j m q h1 h2 => by
  have hk := Lib.ownsRow_kind hr g rfl
  rw [List.getElem?_set] at h2
  by_cases e : i = j
  · subst e
    rw [if_pos rfl] at h2
    split at h2
    · cases h2
      rw [hn] at h1
      obtain rfl := Option.some.inj h1
      exact ⟨fun _ => ownsRow_setCell_other hv (row_ne hv hk (by decide)) _, fun h => absurd h (by omega)⟩
    · cases h2
  · rw [if_neg e] at h2
    obtain ⟨a1, a2⟩ := h j m q h1 h2
    refine ⟨fun hj => ?_, fun hj => a2 (by omega)⟩
    have := ownsRow_grown (a1 (by omega)) hb
    exact ownsRow_setCell_other this (row_ne this hk (by decide)) _
/-- What Clone returns: a grammar in memory of its own. -/
def CloneIs (rs : List PR) (ns : List PN) (w : World) (e : Ending) (w' : World) : Prop :=
  ∃ (rv nv : Value) (qs : List Value), e = .returned (.agg #[rv, nv]) ∧ qs.length = ns.length ∧ w'.ownsRow w.heap.size 48 2 rv rs.length (rulesC rs) ∧ w'.ownsRow w.heap.size 35 7 nv ns.length (nodesC (ns.zip qs)) ∧
    (∀ (j : Nat) (n : PN) (q : Value), ns[j]? = some n → qs[j]? = some q → w'.ownsRow w.heap.size 3 1 q n.kids.length (intsV n.kids)) ∧ Below w.heap.size w w'
theorem own_low {W : World} {base : Nat} {e : TypeId} {size n g : Nat} {v : Value} {xs : List Value} (h : W.ownsRow base e size v n xs) (hg : g < base) (u : Value) (o : Nat) : (W.setCell ⟨g, o, none⟩ u).ownsRow base e size v n xs := ownsRow_setCell_below h (a := ⟨g, o, none⟩) hg u
theorem own_mono {W : World} {base base' : Nat} {e : TypeId} {size n : Nat} {v : Value} {xs : List Value} (h : W.ownsRow base e size v n xs) (hb : base' ≤ base) : W.ownsRow base' e size v n xs :=
  ⟨h.1, h.2.elim Or.inl (fun ⟨g, cap, cur, hv, hg, r⟩ => Or.inr ⟨g, cap, cur, hv, Nat.le_trans hb hg, r⟩)⟩
theorem CloneIs.mk {C : Nat} {rv nv x y : Value} {rs : List PR} {ns : List PN} {qs : List Value} {w w0 wr : World} (h : CloneAt w0.heap.size C rv nv rs ns qs w0 wr) (hm : KMix w0.heap.size ns qs ns.length w wr) (hq : qs.length = ns.length) (hz : w.heap.size + 2 ≤ w0.heap.size) (hb : Below w.heap.size w wr) :
    CloneIs rs ns w (.returned (.agg #[rv, nv])) ((wr.setCell ⟨w.heap.size + 1, 0, none⟩ x).setCell ⟨w.heap.size + 1, 1, none⟩ y) := by
  obtain ⟨h1, h2, h3, h4, h5⟩ := h
  refine ⟨rv, nv, qs, rfl, hq, own_mono (own_low (own_low h3 (by omega) _ _) (by omega) _ _) (by omega), own_mono (own_low (own_low h4 (by omega) _ _) (by omega) _ _) (by omega), fun j n q a1 a2 => ?_, (hb.setCell (p := ⟨w.heap.size + 1, 0, none⟩) (Nat.le_succ _) _).setCell (p := ⟨w.heap.size + 1, 1, none⟩) (Nat.le_succ _) _⟩
  have := (hm j n q a1 a2).1 (List.getElem?_eq_some_iff.1 a1).1
  exact own_mono (own_low (own_low this (by omega) _ _) (by omega) _ _) (by omega)
end Go.Proofs.Ytnfjbjmdempafaa
namespace Go.Proofs.Ytnfjbjmdempafaa
open Go.RowKit
/-- append of no element onto an empty slice that is not nil. -/
theorem run_append_empty0 {P : Program} (w : World) (t ty e : TypeId) (i : TypeInfo) (ht : P.underlying t = some (.slice e)) (hi : P.info? e = some i) (B : Nat) (a : Option Addr) (c : Nat) :
    (Builtin.append_ #[t, t] ty #[.slice (some ⟨B, 0, none⟩) 0 0, .slice a 0 c]).run P w = .ok (.slice (some ⟨B, 0, none⟩) 0 0) w := by
  cases a with
  | none => simp [Builtin.append_, run_underlying ht, sizeOf, typeInfo, hi, Builtin.lenOf, Builtin.firstCells, storeCells]
  | some a =>
    have h := run_firstCells_some (P := P) w i.size 0 a 0 c [] (by simp) (fun j u h => by simp at h)
    simp [Builtin.append_, run_underlying ht, sizeOf, typeInfo, hi, Builtin.lenOf, h, storeCells]
/-- append onto an empty slice of the call's own that is not nil. -/
theorem run_append_empty {P : Program} (w : World) (base : Nat) (t ty e : TypeId) (i : TypeInfo) (z : Value) (size bytes : Nat) (ht : P.underlying t = some (.slice e)) (hi : P.info? e = some i) (hz : i.zero = some z)
    (hsize : i.size = size) (hby : i.bytes = bytes) (hzs : z.cells.size = size) (hsz : 0 < size) (B : Nat) (hown : w.ownsRow base e size (.slice (some ⟨B, 0, none⟩) 0 0) 0 [])
    (a : Option Addr) (m c : Nat) (news : List Value) (hl : news.length = m * size) (ha : m = 0 ∨ ∃ b off, a = some ⟨b, off, none⟩ ∧ ∀ j u, news[j]? = some u → w.cell? ⟨b, off + j, none⟩ = some u) (h1 : ∀ u ∈ news, u.oneCell' = true)
    (h63 : m ≤ maxLen) (hbytes : m * bytes ≤ 140737488355328) (hbase : base ≤ w.heap.size) :
    ∃ v' w', (Builtin.append_ #[t, t] ty #[.slice (some ⟨B, 0, none⟩) 0 0, .slice a m c]).run P w = .ok v' w' ∧ w'.ownsRow base e size v' m news ∧ w.grownBy w' (some B) := by
  rcases Nat.eq_zero_or_pos m with h0 | h0
  · subst h0
    obtain rfl : news = [] := List.length_eq_zero_iff.1 (by rw [hl, Nat.zero_mul])
    exact ⟨_, _, run_append_empty0 w t ty e i ht hi B a c, hown, ⟨rfl, rfl, rfl, Nat.le_refl _, fun _ _ _ => rfl⟩⟩
  · rcases ha with h | ⟨b, off, rfl, hc⟩
    · omega
    have hn : ∀ j u, news[j]? = some u → w.cell? ((⟨b, off, none⟩ : Addr).add j) = some u := fun j u h => by rw [Addr.add_lit]; exact hc j u h
    obtain ⟨v', w', hr, h2, h3, -, -⟩ := run_append_own_at (P := P) w base t ty e i z size bytes ht hi hz hsize hby hzs hsz (.slice (some ⟨B, 0, none⟩) 0 0) 0 [] hown ⟨b, off, none⟩ m c news hl hn h1 (by rw [Nat.zero_add]; exact h63) (by rw [Nat.zero_add]; exact hbytes) hbase
    rw [Nat.zero_add, List.nil_append] at h2
    exact ⟨v', w', hr, h2, h3⟩
theorem wpList_append_empty {P : Program} (w : World) {ops : Array Oper} {rest : List Oper} {o : Oper} {a : Act} {Q : Exit → Act → World → Prop} (hgd : o.guard = none) (s x : Operand) (t : TypeId)
    (ho : o.op = .call { callee := .builtin .append, args := #[s, x], argTypes := #[t, t] })
    (base : Nat) (e : TypeId) (i : TypeInfo) (z : Value) (size bytes : Nat) (ht : P.underlying t = some (.slice e)) (hi : P.info? e = some i) (hz : i.zero = some z)
    (hsize : i.size = size) (hby : i.bytes = bytes) (hzs : z.cells.size = size) (hsz : 0 < size) (B : Nat) (hs : a.eval s = .slice (some ⟨B, 0, none⟩) 0 0) (hown : w.ownsRow base e size (.slice (some ⟨B, 0, none⟩) 0 0) 0 [])
    (ka : Option Addr) (m c : Nat) (news : List Value) (hx : a.eval x = .slice ka m c) (hl : news.length = m * size) (ha : m = 0 ∨ ∃ b off, ka = some ⟨b, off, none⟩ ∧ ∀ j u, news[j]? = some u → w.cell? ⟨b, off + j, none⟩ = some u) (h1 : ∀ u ∈ news, u.oneCell' = true)
    (h63 : m ≤ maxLen) (hbytes : m * bytes ≤ 140737488355328) (hbase : base ≤ w.heap.size)
    (h : ∀ a' c' w', w'.ownsRow base e size (.slice a' m c') m news → w.grownBy w' (some B) → wpList P ops Q rest (a.put o.dst (.slice a' m c')) w') : wpList P ops Q (o :: rest) a w := by
  refine wpList_plain hgd fun K hK => ?_
  obtain ⟨v', w', hr, h2, h3⟩ := run_append_empty (P := P) w base t o.type e i z size bytes ht hi hz hsize hby hzs hsz B hown ka m c news hl ha h1 h63 hbytes hbase
  obtain ⟨a', c', rfl⟩ : ∃ a' c', v' = .slice a' m c' := by
    rcases h2.2 with ⟨e, e0⟩ | ⟨g, cap, cur, e, -⟩
    · exact ⟨none, 0, by rw [e, e0]⟩
    · exact ⟨_, _, e⟩
  unfold Oper.wp execOp
  simp only [ho, resolve, invoke, builtin, Sem.run_bind, Sem.run_pure, Result.andThen_ok, List.map_toArray, List.map_cons, List.map_nil, hs, hx, hr]
  exact hK _ _ (h a' c' w' h2 h3)
theorem own_empty {base : Nat} (w : World) (o o' : Obj) (e : TypeId) (size : Nat) (hb : base ≤ w.heap.size) : (((w.alloc o).alloc o').alloc (.cells #[] e)).ownsRow base e size (.slice (some ⟨w.heap.size + 1 + 1, 0, none⟩) 0 0) 0 [] := by
  have := World.ownsRow_made (base := base) (e := e) (size := size) ((w.alloc o).alloc o') #[] 0 (by simp; omega) (by decide) (by simp)
  rw [World.size_alloc, World.size_alloc] at this
  exact this
theorem own_empty1 {base : Nat} (w : World) (o : Obj) (e : TypeId) (size : Nat) (hb : base ≤ w.heap.size) : ((w.alloc o).alloc (.cells #[] e)).ownsRow base e size (.slice (some ⟨w.heap.size + 1, 0, none⟩) 0 0) 0 [] := by
  have := World.ownsRow_made (base := base) (e := e) (size := size) (w.alloc o) #[] 0 (by simp; omega) (by decide) (by simp)
  rw [World.size_alloc] at this
  exact this
theorem node_block {wr w3 : World} {cs : Array Value} {o2 : Obj} {t : TypeId} (hg : ((wr.alloc (.cells cs t)).alloc o2).grownBy w3 (some (wr.heap.size + 1))) : w3.heap[wr.heap.size]? = some (.cells cs t (0, 0)) := by
  rw [hg.block _ (by simp; omega) (by simp), Below.heap_alloc _ _ _ (by simp)]
  exact heap_alloc_new wr _
theorem cells_at {W : World} {g o : Nat} {cs : Array Value} {t : TypeId} {u : Value} (h : W.heap[g]? = some (.cells cs t (0, 0))) (ho : cs[o]? = some u) : W.cell? ⟨g, o, none⟩ = some u := by
  unfold World.cell?; dsimp only; rw [h]; exact ho
theorem cells_fz {W : World} {g : Nat} {cs : Array Value} {t : TypeId} (h : W.heap[g]? = some (.cells cs t (0, 0))) (o : Nat) : W.frozen? ⟨g, o, none⟩ = false := by simp [World.frozen?, h]
theorem cell_row_one (w : World) (l : List Value) (t : TypeId) : ∀ j u, l[j]? = some u → (w.alloc (.cells l.toArray t)).cell? ((⟨w.heap.size, 0, none⟩ : Addr).add j) = some u := fun j u h => by
  have := heap_alloc_new w (.cells l.toArray t)
  rw [Addr.add_lit, Nat.zero_add]
  exact cells_at this (by simpa using h)
theorem isG0 {W : World} {g : Nat} {x y : Value} (h : IsGram W g x y) : W.cell? ⟨g, 0, none⟩ = some x := by unfold IsGram at h; simp [World.cell?, h]
theorem isG1 {W : World} {g : Nat} {x y : Value} (h : IsGram W g x y) : W.cell? ⟨g, 1, none⟩ = some y := by unfold IsGram at h; simp [World.cell?, h]
theorem isGF {W : World} {g : Nat} {x y : Value} (h : IsGram W g x y) (o : Nat) : W.frozen? ⟨g, o, none⟩ = false := by unfold IsGram at h; simp [World.frozen?, h]
theorem isG_kept {W W' : World} {g : Nat} {x y : Value} (h : IsGram W g x y) (hb : Below W.heap.size W W') : IsGram W' g x y := by
  unfold IsGram; rw [hb.block g (Array.getElem?_eq_some_iff.1 h).1]; exact h
theorem own_slice' {w : World} {base : Nat} {e : TypeId} {size n : Nat} {v : Value} {xs : List Value} (h : w.ownsRow base e size v n xs) : ∃ a c, v = .slice a n c := by
  rcases h.2 with ⟨e, e0⟩ | ⟨g, cap, cur, e, -⟩
  · exact ⟨none, 0, by rw [e, e0]⟩
  · exact ⟨_, _, e⟩
/-- The copy as it grows. -/
def CopyAt (w : World) (O : Nat) (rs : List PR) (ns : List PN) (rv x src v : Value) (qs : List Value) (k : Nat) (wr : World) : Prop :=
  Below w.heap.size w wr ∧ w.heap.size + 1 < O ∧ IsGram wr O rv v ∧ IsGram wr w.heap.size x src ∧ IsGram wr (w.heap.size + 1) (.slice none 0 0) (.slice none 0 0) ∧ wr.ownsRow w.heap.size 48 2 rv rs.length (rulesC rs) ∧
  wr.ownsRow w.heap.size 35 7 v k (nodesC ((ns.take k).zip qs)) ∧ qs.length = k ∧ ∀ (j : Nat) (n : PN) (q : Value), ns[j]? = some n → qs[j]? = some q → wr.ownsRow w.heap.size 3 1 q n.kids.length (intsV n.kids)
section
variable {w : World} {O : Nat} {rs : List PR} {ns : List PN} {rv x src v : Value} {qs : List Value} {k : Nat} {wr W : World}
theorem CopyAt.kept (h : CopyAt w O rs ns rv x src v qs k wr) (hb : Below wr.heap.size wr W) : CopyAt w O rs ns rv x src v qs k W := by
  obtain ⟨h1, h2, h3, h4, h5, h6, h7, h8, h9⟩ := h
  exact ⟨h1.trans (hb.mono h1.size), h2, isG_kept h3 hb, isG_kept h4 hb, isG_kept h5 hb, ownsRow_grown h6 hb, ownsRow_grown h7 hb, h8, fun j n q a b => ownsRow_grown (h9 j n q a b) hb⟩
theorem own_kept' {w w' : World} {base n : Nat} {e e' : TypeId} {size : Nat} {v : Value} {xs : List Value} {r : Option Nat} (h : w.ownsRow base e size v n xs) (hg : w.grownBy w' r) (hr : ∀ g, r = some g → ∃ c fz, w.heap[g]? = some (.cells c e' fz)) (he : e ≠ e') : w'.ownsRow base e size v n xs := by
  refine h.kept hg ?_
  cases r with
  | none => cases hv : v.ownBlock with
    | none => exact .inl rfl
    | some b => exact .inr (by simp)
  | some g => exact .inr (row_ne h (hr g rfl) he)
theorem isG_grown {w w' : World} {G : Nat} {x y : Value} {e' : TypeId} {r : Option Nat} (h : IsGram w G x y) (hg : w.grownBy w' r) (hr : ∀ g, r = some g → ∃ c fz, w.heap[g]? = some (.cells c e' fz)) (he : 25 ≠ e') : IsGram w' G x y := by
  have hl : G < w.heap.size := (Array.getElem?_eq_some_iff.1 h).1
  unfold IsGram
  rw [hg.block G hl (fun e => by
    obtain ⟨c, fz, hc⟩ := hr G e.symm
    unfold IsGram at h
    rw [h] at hc
    injection hc with hc
    injection hc with _ hc
    exact he hc)]
  exact h
theorem CopyAt.step (h : CopyAt w O rs ns rv x src v qs k wr) {n : PN} (hn : ns[k]? = some n) {kv v' : Value} (hkv : wr.ownsRow w.heap.size 3 1 kv n.kids.length (intsV n.kids)) {o2 : Obj} {w' : World}
    (hown : w'.ownsRow w.heap.size 35 7 v' (k + 1) (nodesC ((ns.take k).zip qs) ++ nodeC (n, kv))) (hg : (wr.alloc o2).grownBy w' v.ownBlock) :
    CopyAt w O rs ns rv x src v' (qs ++ [kv]) (k + 1) (w'.setCell ⟨O, 1, none⟩ v') := by
  have hb := one_new wr o2
  obtain ⟨h1, h2, h3, h4, h5, h6, h7, h8, h9⟩ := h.kept hb
  have kind : ∀ g, v.ownBlock = some g → ∃ c fz, (wr.alloc o2).heap[g]? = some (.cells c 35 fz) := fun g hv => Lib.ownsRow_kind h7 g hv
  have hgr := isG_grown h3 hg kind (by decide)
  have hgk : ∃ c fz, w'.heap[O]? = some (.cells c 25 fz) := ⟨_, _, hgr⟩
  have hlt : k < ns.length := (List.getElem?_eq_some_iff.1 hn).1
  refine ⟨(h1.grown hg h1.size (fun g hv => (h7.lt g hv).1)).setCell (p := ⟨O, 1, none⟩) (by show w.heap.size ≤ O; omega) _, h2, ?_, ?_, ?_, ?_, ?_, by rw [List.length_append, h8]; rfl, fun j m q hj hq => ?_⟩
  · unfold IsGram
    rw [heap_setCell_same _ _ _ _ _ _ hgr]
    rfl
  · unfold IsGram
    rw [heap_setCell_other _ _ _ _ (by show w.heap.size ≠ O; omega)]
    exact isG_grown h4 hg kind (by decide)
  · unfold IsGram
    rw [heap_setCell_other _ _ _ _ (by show w.heap.size + 1 ≠ O; omega)]
    exact isG_grown h5 hg kind (by decide)
  · have := own_kept' h6 hg kind (by decide)
    exact ownsRow_setCell_other this (row_ne this hgk (by decide)) _
  · have := ownsRow_setCell_other hown (a := ⟨O, 1, none⟩) (row_ne hown hgk (by decide)) v'
    rw [take_snoc' ns k n hn, List.zip_append (by rw [List.length_take, h8]; omega)]
    unfold nodesC at this ⊢
    rw [List.flatMap_append]
    simpa using this
  · rw [List.getElem?_append] at hq
    split at hq
    · have a2 := own_kept' (h9 j m q hj hq) hg kind (by decide)
      exact ownsRow_setCell_other a2 (row_ne a2 hgk (by decide)) _
    · have hjk : j = k := by
        have := (List.getElem?_eq_some_iff.1 hq).1
        simp at this
        omega
      subst hjk
      rw [h8, Nat.sub_self] at hq
      obtain rfl := Option.some.inj hq
      obtain rfl := Option.some.inj (hn.symm.trans hj)
      have a2 := own_kept' (ownsRow_grown hkv hb) hg kind (by decide)
      exact ownsRow_setCell_other a2 (row_ne a2 hgk (by decide)) _
theorem CopyAt.done (h : CopyAt w O rs ns rv x src v qs ns.length wr) (y z : Value) : CloneIs rs ns w (.returned (.agg #[rv, v])) ((wr.setCell ⟨w.heap.size + 1, 0, none⟩ y).setCell ⟨w.heap.size + 1, 1, none⟩ z) := by
  obtain ⟨h1, h2, h3, h4, h5, h6, h7, h8, h9⟩ := h
  rw [List.take_of_length_le (Nat.le_refl _)] at h7
  have hgk : ∃ c fz, wr.heap[w.heap.size + 1]? = some (.cells c 25 fz) := ⟨_, _, h5⟩
  have hgk2 : ∃ c fz, (wr.setCell ⟨w.heap.size + 1, 0, none⟩ y).heap[w.heap.size + 1]? = some (.cells c 25 fz) := ⟨_, _, heap_setCell_same _ _ _ _ _ _ h5⟩
  have two : ∀ {e : TypeId} {size n : Nat} {u : Value} {xs : List Value}, wr.ownsRow w.heap.size e size u n xs → e ≠ 25 → ((wr.setCell ⟨w.heap.size + 1, 0, none⟩ y).setCell ⟨w.heap.size + 1, 1, none⟩ z).ownsRow w.heap.size e size u n xs := fun hu he => by
    have a1 := ownsRow_setCell_other hu (a := ⟨w.heap.size + 1, 0, none⟩) (row_ne hu hgk he) y
    exact ownsRow_setCell_other a1 (row_ne a1 hgk2 he) _
  exact ⟨rv, v, qs, rfl, h8, two h6 (by decide), two h7 (by decide), fun j n q a b => two (h9 j n q a b) (by decide), (h1.setCell (p := ⟨w.heap.size + 1, 0, none⟩) (Nat.le_succ _) _).setCell (p := ⟨w.heap.size + 1, 1, none⟩) (Nat.le_succ _) _⟩
end
theorem CopyAt.start {w w1 : World} {rs : List PR} {ns : List PN} {rv src y : Value} (hown : w1.ownsRow w.heap.size 48 2 rv rs.length (rulesC rs))
    (hg : (((w.alloc (.cells #[y, src] 25)).alloc (.cells #[.slice none 0 0, .slice none 0 0] 25)).alloc (.cells #[] 48)).grownBy w1 (some (w.heap.size + 1 + 1))) :
    CopyAt w w1.heap.size rs ns rv y src (.slice none 0 0) [] 0 (w1.alloc (.cells #[rv, .slice none 0 0] 25)) := by
  have hb := ((two_new w (.cells #[y, src] 25) (.cells #[.slice none 0 0, .slice none 0 0] 25)).alloc (by simp; omega) (.cells #[] 48))
  have hb1 := hb.grown hg hb.size (fun g e => by have := Option.some.inj e; omega)
  have hsz := hg.size
  simp at hsz
  have hk0 : IsGram w1 w.heap.size y src := by
    unfold IsGram
    rw [hg.block _ (by simp; omega) (by simp; omega), Below.heap_alloc _ _ _ (by simp; omega), Below.heap_alloc _ _ _ (by simp)]
    exact heap_alloc_new w _
  have hk1 : IsGram w1 (w.heap.size + 1) (.slice none 0 0) (.slice none 0 0) := by
    unfold IsGram
    rw [hg.block _ (by simp) (by simp), Below.heap_alloc _ _ _ (by simp)]
    have := heap_alloc_new (w.alloc (.cells #[y, src] 25)) (.cells #[.slice none 0 0, .slice none 0 0] 25)
    rw [World.size_alloc] at this
    exact this
  have hn := one_new w1 (.cells #[rv, .slice none 0 0] 25)
  exact ⟨hb1.trans (hn.mono hb1.size), by omega, heap_alloc_new w1 _, isG_kept hk0 hn, isG_kept hk1 hn, ownsRow_grown hown hn, World.ownsRow_nil _ _ _ _, rfl, fun j n q _ h => by simp at h⟩
set_option maxHeartbeats 8000000 in
set_option maxRecDepth 100000 in
theorem rcopy_any (rv nv : Value) (rs : List PR) (ns : List PN) (w : World) (hR : RulesIn w rv rs) (hN : NodesAt w nv ns) (hrs : rs.length ≤ 1000000) (hns : ns.length ≤ 1000000) (hkl : ∀ n, n ∈ ns → n.kids.length ≤ 1000000) :
    Calls Try.prog 18 #[.agg #[rv, nv]] w (CloneIs rs ns w) := by
  obtain ⟨ir, hir, hzr0, hzr1, hzr2⟩ := info_parts infoRule
  obtain ⟨ie, hie, hze0, hze1, hze2⟩ := info_parts infoNode
  obtain ⟨ra, rc, rfl, hrc⟩ := hR.cells
  have hN' := hN
  obtain ⟨-, na, nc, rfl, hna⟩ := hN'
  have hrc' : ∀ (o o' o2 : Obj), rs.length = 0 ∨ ∃ b off, ra = some ⟨b, off, none⟩ ∧ ∀ j u, (rulesC rs)[j]? = some u → (((w.alloc o).alloc o').alloc o2).cell? ⟨b, off + j, none⟩ = some u := fun o o' o2 => by
    rcases hrc with h | ⟨b, off, h1, h2⟩
    · exact .inl h
    · refine .inr ⟨b, off, h1, fun j u h => ?_⟩
      have hc := h2 j u h
      rw [(bcell ((two_new w o o').alloc (Nat.le_trans (Nat.le_succ _) (by simp)) o2)).1 _ _ (lt_of_cell hc)]
      exact hc
  have HRC := Lib.hid hrc'
  clear hrc hrc'
  go_enter Try.func18, Try.ntmps18
  go_wp2_with (at_builtin; refine wpList_append_empty _ rfl _ _ 22 rfl w.heap.size 48 ir (.agg #[.string ⟨#[]⟩, .int .i64 0]) 2 24 Try.underlying22 hir hzr0 hzr1 hzr2 rfl (by decide) (w.heap.size + 1 + 1) rfl (own_empty w _ _ _ _ (Nat.le_refl _)) ra rs.length rc (rulesC rs) rfl (rulesC_length rs) (HRC.out _ _ _) (rulesC_one rs) (by unfold maxLen; omega) (by omega) (by simp; omega) ?_; intro va vc w1 hown hgrow; have HO := Lib.hid hown; have HG := Lib.hid hgrow; clear hown hgrow)
  have hst := CopyAt.start (ns := ns) HO.out HG.out
  have hO := HG.out.size
  simp at hO
  obtain ⟨W2, hW2⟩ : ∃ W2, w1.alloc (.cells #[.slice va rs.length vc, .slice none 0 0] 25) = W2 := ⟨_, rfl⟩
  rw [hW2] at hst ⊢
  clear hW2
  obtain ⟨O, hOO⟩ : ∃ O, w1.heap.size = O := ⟨_, rfl⟩
  rw [hOO] at hst ⊢
  clear hOO HO HG HRC hO
  obtain ⟨ii, hii, hzi0, hzi1, hzi2⟩ := info_parts infoInt
  have HN := Lib.hid hN
  have HK := Lib.hid hkl
  clear hR hkl
  go_loopw [4] (fun c wr => ∃ (k : Nat) (v : Value) (qs : List Value), k ≤ ns.length ∧ c = .int .i64 k ∧ CopyAt w O rs ns (.slice va rs.length vc) (.slice ra rs.length rc) (.slice na ns.length nc) v qs k wr) (fun c _ => ns.length - (intOf c).toNat)
  case atStart => exact ⟨0, _, [], Nat.zero_le _, rfl, hst⟩
  case round =>
    clear hst hN
    obtain ⟨k, v, qs, hk, rfl, hC⟩ := hrel
    obtain ⟨va', vc', rfl⟩ := own_slice' hC.2.2.2.2.2.2.1
    have s1 : wr.cell? ⟨w.heap.size, 1, none⟩ = some (.slice na ns.length nc) := isG1 hC.2.2.2.1
    have HC := Lib.hid hC
    by_cases hlt : k < ns.length
    · obtain ⟨n, hn⟩ : ∃ n, ns[k]? = some n := ⟨_, List.getElem?_eq_getElem hlt⟩
      rcases hna with h0 | ⟨nb, no, rfl, hcn⟩
      · rw [h0] at hlt; exact absurd hlt (Nat.not_lt_zero _)
      have hkl := HK.out n (List.mem_of_getElem? hn)
      have hbw := hC.1
      have hO1 := hC.2.1
      have hOl : O < wr.heap.size := (Array.getElem?_eq_some_iff.1 hC.2.2.1).1
      have HCN := Lib.hid hcn
      have hNA : NodeAt wr nb (no + k * 7) n := (hcn k n hn).kept hbw (Nat.le_refl _)
      obtain ⟨kv, c0, c1, c2, c3, c4, c5, c6, ci, cl⟩ := hNA
      have CI := Lib.hid ci
      obtain ⟨ka, kc, rfl, -⟩ := ci
      have k1 : (k : Int) < (ns.length : Int) := by omega
      have HN' := Lib.hid hn
      clear hcn hn hC
      go_upto_region 7 with (at_builtin; refine wpList_append_empty _ rfl _ _ 30 rfl w.heap.size 3 ii (.int .i64 0) 1 8 Try.underlying30 hii hzi0 hzi1 hzi2 rfl (by decide) (wr.heap.size + 1) rfl (own_empty1 wr _ _ _ (by have := hbw.size; omega)) ka n.kids.length kc (intsV n.kids) rfl (by rw [intsV_length, Nat.mul_one]) ((CI.out.kept (two_new wr _ _) (Nat.le_refl _)).src) (ints_oneCell .i64 n.kids) (by unfold maxLen; omega) (by omega) (by simp; have := hbw.size; omega) ?_; intro a3 c3' w3 hown hgrow; have hX := node_block hgrow; have x1 := cells_at (o := 1) hX rfl; have xf := cells_fz hX 1; have HO := Lib.hid hown; have HG := Lib.hid hgrow; have HX := Lib.hid hX; clear hown hgrow hX)
      have hkind : ∃ c fz, w3.heap[wr.heap.size]? = some (.cells c 35 fz) := ⟨_, _, HX.out⟩
      have hk4 := ownsRow_setCell_other HO.out (a := ⟨wr.heap.size, 1, none⟩) (row_ne HO.out hkind (by decide)) (.slice a3 n.kids.length c3')
      have hX4 := heap_setCell_same w3 wr.heap.size 1 _ _ (.slice a3 n.kids.length c3') HX.out
      have hB4 : Below wr.heap.size wr (w3.setCell ⟨wr.heap.size, 1, none⟩ (.slice a3 n.kids.length c3')) := ((two_new wr _ _).grown HG.out (two_new wr _ _).size (fun g e => by have := Option.some.inj e; omega)).setCell (p := ⟨wr.heap.size, 1, none⟩) (Nat.le_refl _) _
      generalize w3.setCell ⟨wr.heap.size, 1, none⟩ (.slice a3 n.kids.length c3') = W4 at hk4 hX4 hB4 ⊢
      have hC4 := HC.out.kept hB4
      have o1 : W4.cell? ⟨O, 1, none⟩ = some (.slice va' k vc') := isG1 hC4.2.2.1
      have y0 : W4.cell? ⟨wr.heap.size, 0, none⟩ = some (.int .i64 n.op) := cells_at hX4 rfl
      have y1 : W4.cell? ⟨wr.heap.size, 1, none⟩ = some (.slice a3 n.kids.length c3') := cells_at hX4 rfl
      have y2 : W4.cell? ⟨wr.heap.size, 2, none⟩ = some (.int .i64 n.rule) := cells_at hX4 rfl
      have y3 : W4.cell? ⟨wr.heap.size, 3, none⟩ = some (.int .u64 n.s0) := cells_at hX4 rfl
      have y4 : W4.cell? ⟨wr.heap.size, 4, none⟩ = some (.int .u64 n.s1) := cells_at hX4 rfl
      have y5 : W4.cell? ⟨wr.heap.size, 5, none⟩ = some (.int .u64 n.s2) := cells_at hX4 rfl
      have y6 : W4.cell? ⟨wr.heap.size, 6, none⟩ = some (.int .u64 n.s3) := cells_at hX4 rfl
      have HC4 := Lib.hid hC4
      have HK4 := Lib.hid hk4
      have hsz4 := hC4.1.size
      clear hkind hk4 hX4 hB4 hC4 c0 c1 c2 c3 c4 c5 c6 x1 xf HX HO HG s1
      go_wp2_with (at_builtin; refine wpList_append_own _ rfl _ _ 23 rfl w.heap.size 35 ie (.agg #[.int .i64 0, .slice none 0 0, .int .i64 0, .int .u64 0, .int .u64 0, .int .u64 0, .int .u64 0]) 7 72 Try.underlying23 hie hze0 hze1 hze2 rfl (by decide) _ k _ rfl (ownsRow_grown HC4.out.2.2.2.2.2.2.1 (one_new W4 _)) ⟨W4.heap.size, 0, none⟩ 1 1 (nodeC (n, .slice a3 n.kids.length c3')) rfl rfl (cell_row_one W4 _ _) (by simp [nodeC, Value.oneCell']) (by unfold maxLen; omega) (by omega) (by simp; omega) ?_; intro v5 w5 hown' hgrow _; obtain ⟨va5, vc5, rfl⟩ := own_slice' hown'; have hgm := isG_grown (isG_kept HC4.out.2.2.1 (one_new W4 _)) hgrow (fun g hv => Lib.ownsRow_kind (ownsRow_grown HC4.out.2.2.2.2.2.2.1 (one_new W4 _)) g hv) (by decide); have g2 := isG1 hgm; have g3 := isGF hgm 1; have HO := Lib.hid hown'; have HG := Lib.hid hgrow; clear hown' hgrow hgm)
      go_roundw
      case rel => exact ⟨k + 1, _, _, by omega, by go_num, CopyAt.step HC4.out HN'.out HK4.out HO.out HG.out⟩
      case measure => simp [intOf]; omega
    · obtain rfl : k = ns.length := by omega
      have k1 : ¬ (ns.length : Int) < (ns.length : Int) := by omega
      have o0 : wr.cell? ⟨O, 0, none⟩ = some (.slice va rs.length vc) := isG0 hC.2.2.1
      have o1 : wr.cell? ⟨O, 1, none⟩ = some (.slice va' ns.length vc') := isG1 hC.2.2.1
      have g0 : wr.cell? ⟨w.heap.size + 1, 0, none⟩ = some (.slice none 0 0) := isG0 hC.2.2.2.2.1
      have g1 : wr.cell? ⟨w.heap.size + 1, 1, none⟩ = some (.slice none 0 0) := isG1 hC.2.2.2.2.1
      have gf := isGF hC.2.2.2.2.1
      have hO1 := hC.2.1
      clear hC hna
      go_wp2
      have hr0 : ((wr.setCell ⟨w.heap.size + 1, 0, none⟩ (.slice va rs.length vc)).setCell ⟨w.heap.size + 1, 1, none⟩ (.slice va' ns.length vc')).cell? ⟨w.heap.size + 1, 0, none⟩ = some (.slice va rs.length vc) := by
        rw [World.cell?_setCell_other (h := by intro hh; injection hh with _ h2; cases h2), World.cell?_setCell_same' _ _ _ (by rw [g0]; rfl)]
      have hr1 : ((wr.setCell ⟨w.heap.size + 1, 0, none⟩ (.slice va rs.length vc)).setCell ⟨w.heap.size + 1, 1, none⟩ (.slice va' ns.length vc')).cell? ⟨w.heap.size + 1, 1, none⟩ = some (.slice va' ns.length vc') := by
        rw [World.cell?_setCell_same' _ _ _ (by rw [World.cell?_setCell_other (h := by intro hh; injection hh with _ h2; cases h2), g1]; rfl)]
      refine bodyPost_ret (v := .agg #[.slice va rs.length vc, .slice va' ns.length vc']) (by simp [results, Try.results18, go_sem, hr0, hr1]) rfl (HC.out.done _ _)
end Go.Proofs.Ytnfjbjmdempafaa
