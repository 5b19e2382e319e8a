/- gram.Clone: the region that copies both slices. The reference's Copy. -/
import Derived.Deep.RegionWith
import Derived.Deep.RegionLaw
import Derived.Deep.AppendLies
import Derived.Deep.Cut
import Derived.Test.YtnfjbjmdempafaaGreatDoorPkGramOwnRow
namespace Go.Proofs.YtnfjbjmdempafaaGreatDoor
open Go.RowKit
/-- Block g is a grammar's. -/
def IsGram (W : World) (g : Nat) (x y : Value) : Prop := W.heap[g]? = some (.cells #[x, y] 25 (0, 0))
/-- Blocks stay as they are, but for grammars, which stay grammars. -/
def KeepG (w w' : World) : Prop := w.heap.size ≤ w'.heap.size ∧ ∀ b, b < w.heap.size → w'.heap[b]? = w.heap[b]? ∨ ((∃ x y, IsGram w b x y) ∧ ∃ x y, IsGram w' b x y)
theorem KeepG.refl (w : World) : KeepG w w := ⟨Nat.le_refl _, fun _ _ => .inl rfl⟩
theorem KeepG.of_grown {w w' : World} (h : w.grownBy w' none) : KeepG w w' := ⟨h.size, fun b hb => .inl (h.block b hb (by simp))⟩
theorem KeepG.own {w w' : World} (h : KeepG w w') {base : Nat} {e : TypeId} {size : Nat} {v : Value} {n : Nat} {xs : List Value} (hv : w.ownsRow base e size v n xs) (he : e ≠ 25) : w'.ownsRow base e size v n xs := by
  obtain ⟨h1, h2⟩ := hv
  refine ⟨h1, ?_⟩
  rcases h2 with h2 | ⟨g, cap, cur, hv, hg, hh, r⟩
  · exact .inl h2
  · refine .inr ⟨g, cap, cur, hv, hg, ?_, r⟩
    have hl : g < w.heap.size := (Array.getElem?_eq_some_iff.1 hh).1
    rcases h.2 g hl with h3 | ⟨⟨x, y, h3⟩, -⟩
    · rw [h3]; exact hh
    · unfold IsGram at h3
      rw [h3] at hh
      injection hh with hh
      injection hh with _ hh
      exact absurd hh.symm he
section
variable (n0 B0 : Nat) (ru nu : Value) (rn nn : Nat) (rc nc : List Value)
structure CLS (w0 : World) (L : Nat → Bool) (W : World) : Prop where
  below : Below n0 w0 W
  size : n0 ≤ W.heap.size
  free : L 7 = false → ∀ g x y, n0 ≤ g → ¬ IsGram W g x y
  one : ∀ g g' x y x' y', n0 ≤ g → n0 ≤ g' → IsGram W g x y → IsGram W g' x' y' → g = g'
  last : L 8 = true → ∀ g x y, n0 ≤ g → IsGram W g x y → W.ownsRow n0 43 2 x rn rc ∧ W.ownsRow n0 50 7 y nn nc
variable {n0 B0 ru nu rn nn rc nc}
theorem gram_old {W W' : World} (hg : W.grownBy W' Option.none) {t : TypeId} (ht : t ≠ 25) (hn : ∀ b o, W.heap.size ≤ b → W'.heap[b]? = some o → ∃ cs, o = .cells cs t (0, 0)) {g : Nat} {x y : Value} (h : IsGram W' g x y) : IsGram W g x y := by
  rcases Nat.lt_or_ge g W.heap.size with hl | hl
  · unfold IsGram at *; rw [← hg.block g hl (by simp)]; exact h
  · obtain ⟨cs, hc⟩ := hn g _ hl h
    injection hc with _ hc
    exact absurd hc.symm ht
theorem CLS.grown {w0 : World} {L : Nat → Bool} {W W' : World} (h : CLS n0 rn nn rc nc w0 L W) (k : Nat) (hk : k ≠ 7) (hk8 : k ≠ 8) (hg : W.grownBy W' Option.none) {t : TypeId} (ht : t ≠ 25) (hn : ∀ b o, W.heap.size ≤ b → W'.heap[b]? = some o → ∃ cs, o = .cells cs t (0, 0)) : CLS n0 rn nn rc nc w0 (fun j => if j = k then true else L j) W' :=
  ⟨h.below.grown hg h.size (fun k e => by cases e), Nat.le_trans h.size hg.size,
    fun h7 g x y hn0 hx => h.free (by rw [if_neg (fun e => hk e.symm)] at h7; exact h7) g x y hn0 (gram_old hg ht hn hx),
    fun g g' x y x' y' h1 h2 h3 h4 => h.one g g' x y x' y' h1 h2 (gram_old hg ht hn h3) (gram_old hg ht hn h4),
    fun h8 g x y h1 h2 => by
      have := h.last (by rw [if_neg (fun e => hk8 e.symm)] at h8; exact h8) g x y h1 (gram_old hg ht hn h2)
      exact ⟨(KeepG.of_grown hg).own this.1 (by decide), (KeepG.of_grown hg).own this.2 (by decide)⟩⟩
theorem CLS.alloc {w0 : World} {L : Nat → Bool} {W : World} (h : CLS n0 rn nn rc nc w0 L W) (h7 : L 7 = false) (h8 : L 8 = false) (x y : Value) : CLS n0 rn nn rc nc w0 (fun j => if j = 7 then true else L j) (W.alloc (.cells #[x, y] 25)) := by
  have old : ∀ g x' y', n0 ≤ g → IsGram (W.alloc (.cells #[x, y] 25)) g x' y' → g = W.heap.size := fun g x' y' hn hx => by
    rcases Nat.lt_trichotomy g W.heap.size with hl | hl | hl
    · have : IsGram W g x' y' := by unfold IsGram at *; rw [← Below.heap_alloc W (.cells #[x, y] 25) g hl]; exact hx
      exact absurd this (h.free h7 g x' y' hn)
    · exact hl
    · unfold IsGram at hx
      rw [Array.getElem?_eq_none (by rw [World.size_alloc]; omega)] at hx
      cases hx
  exact ⟨h.below.alloc h.size _, by rw [World.size_alloc]; exact Nat.le_succ_of_le h.size, fun e => by simp at e, fun g g' x y x' y' h1 h2 h3 h4 => by rw [old g _ _ h1 h3, old g' _ _ h2 h4], fun e => by rw [if_neg (by decide)] at e; rw [h8] at e; cases e⟩
end
/-- A clone as it grows: the block of its two slices, the rows of rules and nodes, its kids. -/
def CloneAt (n0 C : Nat) (rv nv : Value) (rs : List PR) (ns : List PN) (qs : List Value) (w0 W : World) : Prop :=
  n0 ≤ C ∧ IsGram W C rv nv ∧ W.ownsRow n0 43 2 rv rs.length (rulesC rs) ∧ W.ownsRow n0 50 7 nv ns.length (nodesC (ns.zip qs)) ∧ Below n0 w0 W
section
variable {n0 C : Nat} {rv nv : Value} {rs : List PR} {ns : List PN} {qs : List Value} {w0 W W' : World}
theorem CloneAt.kept (h : CloneAt n0 C rv nv rs ns qs w0 W) (hb : Below W.heap.size W W') : CloneAt n0 C rv nv rs ns qs w0 W' := by
  obtain ⟨h1, h2, h3, h4, h5⟩ := h
  have hl : C < W.heap.size := (Array.getElem?_eq_some_iff.1 h2).1
  have hn : n0 ≤ W.heap.size := by omega
  exact ⟨h1, by unfold IsGram; rw [hb.block C hl]; exact h2, ownsRow_grown h3 hb, ownsRow_grown h4 hb, h5.trans (hb.mono hn)⟩
theorem CloneAt.cell1 (h : CloneAt n0 C rv nv rs ns qs w0 W) : W.cell? ⟨C, 1, none⟩ = some nv := by have := h.2.1; unfold IsGram at this; simp [World.cell?, this]
theorem CloneAt.lt (h : CloneAt n0 C rv nv rs ns qs w0 W) : C < W.heap.size := (Array.getElem?_eq_some_iff.1 h.2.1).1
theorem row_ne {base : Nat} {e e' : TypeId} {size : Nat} {v : Value} {n : Nat} {xs : List Value} {g : Nat} (h : W.ownsRow base e size v n xs) (hg : ∃ c fz, W.heap[g]? = some (.cells c e' fz)) (he : e ≠ e') : v.ownBlock ≠ some g := fun hb => by
  obtain ⟨c, fz, h1⟩ := Lib.ownsRow_kind h g hb
  obtain ⟨c', fz', h2⟩ := hg
  rw [h1] at h2
  injection h2 with h2
  injection h2 with _ h2
  exact he h2
theorem set_same {l : List Value} {j : Nat} {u : Value} (h : l[j]? = some u) : l.set j u = l := by
  obtain ⟨hj, rfl⟩ := List.getElem?_eq_some_iff.1 h
  exact List.set_getElem_self hj
theorem CloneAt.rule {g cap i : Nat} {r : PR} (h : CloneAt n0 C (.slice (some ⟨g, 0, none⟩) rs.length cap) nv rs ns qs w0 W) (hr : rs[i]? = some r) : CloneAt n0 C (.slice (some ⟨g, 0, none⟩) rs.length cap) nv rs ns qs w0 (W.setCell ⟨g, i * 2, none⟩ (.string r.name)) := by
  obtain ⟨h1, h2, h3, h4, h5⟩ := h
  have hk := Lib.ownsRow_kind h3 g rfl
  have hg := (h3.lt g rfl).1
  have hcg : C ≠ g := fun e => by
    subst e
    obtain ⟨c, fz, h6⟩ := hk
    unfold IsGram at h2
    rw [h2] at h6
    injection h6 with h6
    injection h6 with _ h6
    exact absurd h6 (by decide)
  refine ⟨h1, by unfold IsGram; rw [heap_setCell_other _ _ _ _ hcg]; exact h2, ?_, ownsRow_setCell_other h4 (row_ne h4 hk (by decide)) _, h5.setCell (p := ⟨g, i * 2, none⟩) hg _⟩
  have := (h3.stored (i * 2 + 0) (.string r.name)).1
  rw [set_same (rulesC_at (j := 0) hr (by decide))] at this
  exact this
end
/-- The kids: the first i are the call's own, the others as they came. -/
def KMix (n0 : Nat) (ns : List PN) (qs : List Value) (i : Nat) (w W : World) : Prop := ∀ (j : Nat) (n : PN) (q : Value), ns[j]? = some n → qs[j]? = some q → (j < i → W.ownsRow n0 3 1 q n.kids.length (intsV n.kids)) ∧ (i ≤ j → IntsAt w q n.kids)
theorem below_of_grown {w w' : World} (h : w.grownBy w' none) : Below w.heap.size w w' := ⟨h.os, h.tape, h.output, h.size, fun k hk => h.block k hk (by simp)⟩
theorem IntsAt.src {w : World} {a : Option Addr} {c : Nat} {l : List Int} (h : IntsAt w (.slice a l.length c) l) : l.length = 0 ∨ ∃ b off, a = some ⟨b, off, none⟩ ∧ ∀ j u, (intsV l)[j]? = some u → w.cell? ⟨b, off + j, none⟩ = some u := by
  obtain ⟨a', c', e, h⟩ := h
  injection e with e1 _ e3
  subst e1 e3
  rcases h with h | ⟨b, off, rfl, hc⟩
  · left; rw [h]; rfl
  · right
    refine ⟨b, off, rfl, fun j u hu => ?_⟩
    unfold intsV at hu
    rw [List.getElem?_map] at hu
    cases hj : l[j]? with
    | none => rw [hj] at hu; cases hu
    | some x => rw [hj] at hu; cases hu; exact hc j x hj
theorem KMix.step {n0 : Nat} {ns : List PN} {qs : List Value} {i : Nat} {w W W2 : World} {n : PN} {v : Value} {g base cap k : Nat} {xs : List Value} (h : KMix n0 ns qs i w W) (hb : Below W.heap.size W W2) (hn : ns[i]? = some n) (hv : W2.ownsRow n0 3 1 v n.kids.length (intsV n.kids)) (hr : W2.ownsRow base 50 7 (.slice (some ⟨g, 0, none⟩) k cap) k xs) (o : Nat) (u : Value) :
    KMix n0 ns (qs.set i v) (i + 1) w (W2.setCell ⟨g, o, none⟩ u) := fun j m q h1 h2 => by
  have hk := Lib.ownsRow_kind hr g rfl
  rw [List.getElem?_set] at h2
  by_cases e : i = j
  · subst e
    rw [if_pos rfl] at h2
    split at h2
    · cases h2
      rw [hn] at h1
      obtain rfl := Option.some.inj h1
      exact ⟨fun _ => ownsRow_setCell_other hv (row_ne hv hk (by decide)) _, fun h => absurd h (by omega)⟩
    · cases h2
  · rw [if_neg e] at h2
    obtain ⟨a1, a2⟩ := h j m q h1 h2
    refine ⟨fun hj => ?_, fun hj => a2 (by omega)⟩
    have := ownsRow_grown (a1 (by omega)) hb
    exact ownsRow_setCell_other this (row_ne this hk (by decide)) _
/-- What Clone returns: a grammar in memory of its own. -/
def CloneIs (rs : List PR) (ns : List PN) (w : World) (e : Ending) (w' : World) : Prop :=
  ∃ (rv nv : Value) (qs : List Value), e = .returned (.agg #[rv, nv]) ∧ qs.length = ns.length ∧ w'.ownsRow w.heap.size 43 2 rv rs.length (rulesC rs) ∧ w'.ownsRow w.heap.size 50 7 nv ns.length (nodesC (ns.zip qs)) ∧
    (∀ (j : Nat) (n : PN) (q : Value), ns[j]? = some n → qs[j]? = some q → w'.ownsRow w.heap.size 3 1 q n.kids.length (intsV n.kids)) ∧ Below w.heap.size w w'
theorem own_low {W : World} {base : Nat} {e : TypeId} {size n g : Nat} {v : Value} {xs : List Value} (h : W.ownsRow base e size v n xs) (hg : g < base) (u : Value) (o : Nat) : (W.setCell ⟨g, o, none⟩ u).ownsRow base e size v n xs := ownsRow_setCell_below h (a := ⟨g, o, none⟩) hg u
theorem own_mono {W : World} {base base' : Nat} {e : TypeId} {size n : Nat} {v : Value} {xs : List Value} (h : W.ownsRow base e size v n xs) (hb : base' ≤ base) : W.ownsRow base' e size v n xs :=
  ⟨h.1, h.2.elim Or.inl (fun ⟨g, cap, cur, hv, hg, r⟩ => Or.inr ⟨g, cap, cur, hv, Nat.le_trans hb hg, r⟩)⟩
theorem CloneIs.mk {C : Nat} {rv nv x y : Value} {rs : List PR} {ns : List PN} {qs : List Value} {w w0 wr : World} (h : CloneAt w0.heap.size C rv nv rs ns qs w0 wr) (hm : KMix w0.heap.size ns qs ns.length w wr) (hq : qs.length = ns.length) (hz : w.heap.size + 2 ≤ w0.heap.size) (hb : Below w.heap.size w wr) :
    CloneIs rs ns w (.returned (.agg #[rv, nv])) ((wr.setCell ⟨w.heap.size + 1, 0, none⟩ x).setCell ⟨w.heap.size + 1, 1, none⟩ y) := by
  obtain ⟨h1, h2, h3, h4, h5⟩ := h
  refine ⟨rv, nv, qs, rfl, hq, own_mono (own_low (own_low h3 (by omega) _ _) (by omega) _ _) (by omega), own_mono (own_low (own_low h4 (by omega) _ _) (by omega) _ _) (by omega), fun j n q a1 a2 => ?_, (hb.setCell (p := ⟨w.heap.size + 1, 0, none⟩) (Nat.le_succ _) _).setCell (p := ⟨w.heap.size + 1, 1, none⟩) (Nat.le_succ _) _⟩
  have := (hm j n q a1 a2).1 (List.getElem?_eq_some_iff.1 a1).1
  exact own_mono (own_low (own_low this (by omega) _ _) (by omega) _ _) (by omega)
end Go.Proofs.YtnfjbjmdempafaaGreatDoor
namespace Go.Proofs.YtnfjbjmdempafaaGreatDoor
open Go.RowKit
theorem cells_at {W : World} {g o : Nat} {cs : Array Value} {t : TypeId} {u : Value} (h : W.heap[g]? = some (.cells cs t (0, 0))) (ho : cs[o]? = some u) : W.cell? ⟨g, o, none⟩ = some u := by
  unfold World.cell?; dsimp only; rw [h]; exact ho
theorem cells_fz {W : World} {g : Nat} {cs : Array Value} {t : TypeId} (h : W.heap[g]? = some (.cells cs t (0, 0))) (o : Nat) : W.frozen? ⟨g, o, none⟩ = false := by simp [World.frozen?, h]
theorem isG_kept {W W' : World} {g : Nat} {x y : Value} (h : IsGram W g x y) (hb : Below W.heap.size W W') : IsGram W' g x y := by
  unfold IsGram; rw [hb.block g (Array.getElem?_eq_some_iff.1 h).1]; exact h
theorem own_slice' {w : World} {base : Nat} {e : TypeId} {size n : Nat} {v : Value} {xs : List Value} (h : w.ownsRow base e size v n xs) : ∃ a c, v = .slice a n c := by
  rcases h.2 with ⟨e, e0⟩ | ⟨g, cap, cur, e, -⟩
  · exact ⟨none, 0, by rw [e, e0]⟩
  · exact ⟨_, _, e⟩
/-- The copy as it grows. -/
def CopyAt (w : World) (O : Nat) (rs : List PR) (ns : List PN) (rv x src v : Value) (qs : List Value) (k : Nat) (wr : World) : Prop :=
  Below w.heap.size w wr ∧ w.heap.size + 1 < O ∧ IsGram wr O rv v ∧ IsGram wr w.heap.size x src ∧ IsGram wr (w.heap.size + 1) (.slice none 0 0) (.slice none 0 0) ∧ wr.ownsRow w.heap.size 43 2 rv rs.length (rulesC rs) ∧
  wr.ownsRow w.heap.size 50 7 v k (nodesC ((ns.take k).zip qs)) ∧ qs.length = k ∧ ∀ (j : Nat) (n : PN) (q : Value), ns[j]? = some n → qs[j]? = some q → wr.ownsRow w.heap.size 3 1 q n.kids.length (intsV n.kids)
section
variable {w : World} {O : Nat} {rs : List PR} {ns : List PN} {rv x src v : Value} {qs : List Value} {k : Nat} {wr W : World}
theorem CopyAt.kept (h : CopyAt w O rs ns rv x src v qs k wr) (hb : Below wr.heap.size wr W) : CopyAt w O rs ns rv x src v qs k W := by
  obtain ⟨h1, h2, h3, h4, h5, h6, h7, h8, h9⟩ := h
  exact ⟨h1.trans (hb.mono h1.size), h2, isG_kept h3 hb, isG_kept h4 hb, isG_kept h5 hb, ownsRow_grown h6 hb, ownsRow_grown h7 hb, h8, fun j n q a b => ownsRow_grown (h9 j n q a b) hb⟩
theorem own_kept' {w w' : World} {base n : Nat} {e e' : TypeId} {size : Nat} {v : Value} {xs : List Value} {r : Option Nat} (h : w.ownsRow base e size v n xs) (hg : w.grownBy w' r) (hr : ∀ g, r = some g → ∃ c fz, w.heap[g]? = some (.cells c e' fz)) (he : e ≠ e') : w'.ownsRow base e size v n xs := by
  refine h.kept hg ?_
  cases r with
  | none => cases hv : v.ownBlock with
    | none => exact .inl rfl
    | some b => exact .inr (by simp)
  | some g => exact .inr (row_ne h (hr g rfl) he)
theorem isG_grown {w w' : World} {G : Nat} {x y : Value} {e' : TypeId} {r : Option Nat} (h : IsGram w G x y) (hg : w.grownBy w' r) (hr : ∀ g, r = some g → ∃ c fz, w.heap[g]? = some (.cells c e' fz)) (he : 25 ≠ e') : IsGram w' G x y := by
  have hl : G < w.heap.size := (Array.getElem?_eq_some_iff.1 h).1
  unfold IsGram
  rw [hg.block G hl (fun e => by
    obtain ⟨c, fz, hc⟩ := hr G e.symm
    unfold IsGram at h
    rw [h] at hc
    injection hc with hc
    injection hc with _ hc
    exact he hc)]
  exact h
theorem CopyAt.step (h : CopyAt w O rs ns rv x src v qs k wr) {n : PN} (hn : ns[k]? = some n) {kv v' : Value} (hkv : wr.ownsRow w.heap.size 3 1 kv n.kids.length (intsV n.kids)) {o2 : Obj} {w' : World}
    (hown : w'.ownsRow w.heap.size 50 7 v' (k + 1) (nodesC ((ns.take k).zip qs) ++ nodeC (n, kv))) (hg : (wr.alloc o2).grownBy w' v.ownBlock) :
    CopyAt w O rs ns rv x src v' (qs ++ [kv]) (k + 1) (w'.setCell ⟨O, 1, none⟩ v') := by
  have hb := one_new wr o2
  obtain ⟨h1, h2, h3, h4, h5, h6, h7, h8, h9⟩ := h.kept hb
  have kind : ∀ g, v.ownBlock = some g → ∃ c fz, (wr.alloc o2).heap[g]? = some (.cells c 50 fz) := fun g hv => Lib.ownsRow_kind h7 g hv
  have hgr := isG_grown h3 hg kind (by decide)
  have hgk : ∃ c fz, w'.heap[O]? = some (.cells c 25 fz) := ⟨_, _, hgr⟩
  have hlt : k < ns.length := (List.getElem?_eq_some_iff.1 hn).1
  refine ⟨(h1.grown hg h1.size (fun g hv => (h7.lt g hv).1)).setCell (p := ⟨O, 1, none⟩) (by show w.heap.size ≤ O; omega) _, h2, ?_, ?_, ?_, ?_, ?_, by rw [List.length_append, h8]; rfl, fun j m q hj hq => ?_⟩
  · unfold IsGram
    rw [heap_setCell_same _ _ _ _ _ _ hgr]
    rfl
  · unfold IsGram
    rw [heap_setCell_other _ _ _ _ (by show w.heap.size ≠ O; omega)]
    exact isG_grown h4 hg kind (by decide)
  · unfold IsGram
    rw [heap_setCell_other _ _ _ _ (by show w.heap.size + 1 ≠ O; omega)]
    exact isG_grown h5 hg kind (by decide)
  · have := own_kept' h6 hg kind (by decide)
    exact ownsRow_setCell_other this (row_ne this hgk (by decide)) _
  · have := ownsRow_setCell_other hown (a := ⟨O, 1, none⟩) (row_ne hown hgk (by decide)) v'
    rw [take_snoc' ns k n hn, List.zip_append (by rw [List.length_take, h8]; omega)]
    unfold nodesC at this ⊢
    rw [List.flatMap_append]
    simpa using this
  · rw [List.getElem?_append] at hq
    split at hq
    · have a2 := own_kept' (h9 j m q hj hq) hg kind (by decide)
      exact ownsRow_setCell_other a2 (row_ne a2 hgk (by decide)) _
    · have hjk : j = k := by
        have := (List.getElem?_eq_some_iff.1 hq).1
        simp at this
        omega
      subst hjk
      rw [h8, Nat.sub_self] at hq
      obtain rfl := Option.some.inj hq
      obtain rfl := Option.some.inj (hn.symm.trans hj)
      have a2 := own_kept' (ownsRow_grown hkv hb) hg kind (by decide)
      exact ownsRow_setCell_other a2 (row_ne a2 hgk (by decide)) _
theorem CopyAt.done (h : CopyAt w O rs ns rv x src v qs ns.length wr) (y z : Value) : CloneIs rs ns w (.returned (.agg #[rv, v])) ((wr.setCell ⟨w.heap.size + 1, 0, none⟩ y).setCell ⟨w.heap.size + 1, 1, none⟩ z) := by
  obtain ⟨h1, h2, h3, h4, h5, h6, h7, h8, h9⟩ := h
  rw [List.take_of_length_le (Nat.le_refl _)] at h7
  have hgk : ∃ c fz, wr.heap[w.heap.size + 1]? = some (.cells c 25 fz) := ⟨_, _, h5⟩
  have hgk2 : ∃ c fz, (wr.setCell ⟨w.heap.size + 1, 0, none⟩ y).heap[w.heap.size + 1]? = some (.cells c 25 fz) := ⟨_, _, heap_setCell_same _ _ _ _ _ _ h5⟩
  have two : ∀ {e : TypeId} {size n : Nat} {u : Value} {xs : List Value}, wr.ownsRow w.heap.size e size u n xs → e ≠ 25 → ((wr.setCell ⟨w.heap.size + 1, 0, none⟩ y).setCell ⟨w.heap.size + 1, 1, none⟩ z).ownsRow w.heap.size e size u n xs := fun hu he => by
    have a1 := ownsRow_setCell_other hu (a := ⟨w.heap.size + 1, 0, none⟩) (row_ne hu hgk he) y
    exact ownsRow_setCell_other a1 (row_ne a1 hgk2 he) _
  exact ⟨rv, v, qs, rfl, h8, two h6 (by decide), two h7 (by decide), fun j n q a b => two (h9 j n q a b) (by decide), (h1.setCell (p := ⟨w.heap.size + 1, 0, none⟩) (Nat.le_succ _) _).setCell (p := ⟨w.heap.size + 1, 1, none⟩) (Nat.le_succ _) _⟩
end
theorem CopyAt.start {w w1 : World} {rs : List PR} {ns : List PN} {rv src y : Value} (hown : w1.ownsRow w.heap.size 43 2 rv rs.length (rulesC rs))
    (hg : (((w.alloc (.cells #[y, src] 25)).alloc (.cells #[.slice none 0 0, .slice none 0 0] 25)).alloc (.cells #[] 43)).grownBy w1 (some (w.heap.size + 1 + 1))) :
    CopyAt w w1.heap.size rs ns rv y src (.slice none 0 0) [] 0 (w1.alloc (.cells #[rv, .slice none 0 0] 25)) := by
  have hb := ((two_new w (.cells #[y, src] 25) (.cells #[.slice none 0 0, .slice none 0 0] 25)).alloc (by simp; omega) (.cells #[] 43))
  have hb1 := hb.grown hg hb.size (fun g e => by have := Option.some.inj e; omega)
  have hsz := hg.size
  simp at hsz
  have hk0 : IsGram w1 w.heap.size y src := by
    unfold IsGram
    rw [hg.block _ (by simp; omega) (by simp; omega), Below.heap_alloc _ _ _ (by simp; omega), Below.heap_alloc _ _ _ (by simp)]
    exact heap_alloc_new w _
  have hk1 : IsGram w1 (w.heap.size + 1) (.slice none 0 0) (.slice none 0 0) := by
    unfold IsGram
    rw [hg.block _ (by simp) (by simp), Below.heap_alloc _ _ _ (by simp)]
    have := heap_alloc_new (w.alloc (.cells #[y, src] 25)) (.cells #[.slice none 0 0, .slice none 0 0] 25)
    rw [World.size_alloc] at this
    exact this
  have hn := one_new w1 (.cells #[rv, .slice none 0 0] 25)
  exact ⟨hb1.trans (hn.mono hb1.size), by omega, heap_alloc_new w1 _, isG_kept hk0 hn, isG_kept hk1 hn, ownsRow_grown hown hn, World.ownsRow_nil _ _ _ _, rfl, fun j n q _ h => by simp at h⟩
end Go.Proofs.YtnfjbjmdempafaaGreatDoor
