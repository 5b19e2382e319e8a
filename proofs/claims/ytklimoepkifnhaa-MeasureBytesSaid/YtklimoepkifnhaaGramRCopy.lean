/- The reference's Copy. -/
import Derived.Test.YtklimoepkifnhaaGramClone
import Derived.Deep.Cut
namespace Go.Proofs.Ytklimoepkifnhaa
open Go.RowKit
/-- append of no element onto an empty slice that is not nil. -/
theorem run_append_empty0 {P : Program} (w : World) (t ty e : TypeId) (i : TypeInfo) (ht : P.underlying t = some (.slice e)) (hi : P.info? e = some i) (B : Nat) (a : Option Addr) (c : Nat) :
    (Builtin.append_ #[t, t] ty #[.slice (some ⟨B, 0, none⟩) 0 0, .slice a 0 c]).run P w = .ok (.slice (some ⟨B, 0, none⟩) 0 0) w := by
  cases a with
  | none => simp [Builtin.append_, run_underlying ht, sizeOf, typeInfo, hi, Builtin.lenOf, Builtin.firstCells, storeCells]
  | some a =>
    have h := run_firstCells_some (P := P) w i.size 0 a 0 c [] (by simp) (fun j u h => by simp at h)
    simp [Builtin.append_, run_underlying ht, sizeOf, typeInfo, hi, Builtin.lenOf, h, storeCells]
/-- append onto an empty slice of the call's own that is not nil. -/
theorem run_append_empty {P : Program} (w : World) (base : Nat) (t ty e : TypeId) (i : TypeInfo) (z : Value) (size bytes : Nat) (ht : P.underlying t = some (.slice e)) (hi : P.info? e = some i) (hz : i.zero = some z)
    (hsize : i.size = size) (hby : i.bytes = bytes) (hzs : z.cells.size = size) (hsz : 0 < size) (B : Nat) (hown : w.ownsRow base e size (.slice (some ⟨B, 0, none⟩) 0 0) 0 [])
    (a : Option Addr) (m c : Nat) (news : List Value) (hl : news.length = m * size) (ha : m = 0 ∨ ∃ b off, a = some ⟨b, off, none⟩ ∧ ∀ j u, news[j]? = some u → w.cell? ⟨b, off + j, none⟩ = some u) (h1 : ∀ u ∈ news, u.oneCell' = true)
    (h63 : m ≤ maxLen) (hbytes : m * bytes ≤ 140737488355328) (hbase : base ≤ w.heap.size) :
    ∃ v' w', (Builtin.append_ #[t, t] ty #[.slice (some ⟨B, 0, none⟩) 0 0, .slice a m c]).run P w = .ok v' w' ∧ w'.ownsRow base e size v' m news ∧ w.grownBy w' (some B) := by
  rcases Nat.eq_zero_or_pos m with h0 | h0
  · subst h0
    obtain rfl : news = [] := List.length_eq_zero_iff.1 (by rw [hl, Nat.zero_mul])
    exact ⟨_, _, run_append_empty0 w t ty e i ht hi B a c, hown, ⟨rfl, rfl, rfl, Nat.le_refl _, fun _ _ _ => rfl⟩⟩
  · rcases ha with h | ⟨b, off, rfl, hc⟩
    · omega
    have hn : ∀ j u, news[j]? = some u → w.cell? ((⟨b, off, none⟩ : Addr).add j) = some u := fun j u h => by rw [Addr.add_lit]; exact hc j u h
    obtain ⟨v', w', hr, h2, h3, -, -⟩ := run_append_own_at (P := P) w base t ty e i z size bytes ht hi hz hsize hby hzs hsz (.slice (some ⟨B, 0, none⟩) 0 0) 0 [] hown ⟨b, off, none⟩ m c news hl hn h1 (by rw [Nat.zero_add]; exact h63) (by rw [Nat.zero_add]; exact hbytes) hbase
    rw [Nat.zero_add, List.nil_append] at h2
    exact ⟨v', w', hr, h2, h3⟩
theorem wpList_append_empty {P : Program} (w : World) {ops : Array Oper} {rest : List Oper} {o : Oper} {a : Act} {Q : Exit → Act → World → Prop} (hgd : o.guard = none) (s x : Operand) (t : TypeId)
    (ho : o.op = .call { callee := .builtin .append, args := #[s, x], argTypes := #[t, t] })
    (base : Nat) (e : TypeId) (i : TypeInfo) (z : Value) (size bytes : Nat) (ht : P.underlying t = some (.slice e)) (hi : P.info? e = some i) (hz : i.zero = some z)
    (hsize : i.size = size) (hby : i.bytes = bytes) (hzs : z.cells.size = size) (hsz : 0 < size) (B : Nat) (hs : a.eval s = .slice (some ⟨B, 0, none⟩) 0 0) (hown : w.ownsRow base e size (.slice (some ⟨B, 0, none⟩) 0 0) 0 [])
    (ka : Option Addr) (m c : Nat) (news : List Value) (hx : a.eval x = .slice ka m c) (hl : news.length = m * size) (ha : m = 0 ∨ ∃ b off, ka = some ⟨b, off, none⟩ ∧ ∀ j u, news[j]? = some u → w.cell? ⟨b, off + j, none⟩ = some u) (h1 : ∀ u ∈ news, u.oneCell' = true)
    (h63 : m ≤ maxLen) (hbytes : m * bytes ≤ 140737488355328) (hbase : base ≤ w.heap.size)
    (h : ∀ a' c' w', w'.ownsRow base e size (.slice a' m c') m news → w.grownBy w' (some B) → wpList P ops Q rest (a.put o.dst (.slice a' m c')) w') : wpList P ops Q (o :: rest) a w := by
  refine wpList_plain hgd fun K hK => ?_
  obtain ⟨v', w', hr, h2, h3⟩ := run_append_empty (P := P) w base t o.type e i z size bytes ht hi hz hsize hby hzs hsz B hown ka m c news hl ha h1 h63 hbytes hbase
  obtain ⟨a', c', rfl⟩ : ∃ a' c', v' = .slice a' m c' := by
    rcases h2.2 with ⟨e, e0⟩ | ⟨g, cap, cur, e, -⟩
    · exact ⟨none, 0, by rw [e, e0]⟩
    · exact ⟨_, _, e⟩
  unfold Oper.wp execOp
  simp only [ho, resolve, invoke, builtin, Sem.run_bind, Sem.run_pure, Result.andThen_ok, List.map_toArray, List.map_cons, List.map_nil, hs, hx, hr]
  exact hK _ _ (h a' c' w' h2 h3)
theorem own_empty {base : Nat} (w : World) (o o' : Obj) (e : TypeId) (size : Nat) (hb : base ≤ w.heap.size) : (((w.alloc o).alloc o').alloc (.cells #[] e)).ownsRow base e size (.slice (some ⟨w.heap.size + 1 + 1, 0, none⟩) 0 0) 0 [] := by
  have := World.ownsRow_made (base := base) (e := e) (size := size) ((w.alloc o).alloc o') #[] 0 (by simp; omega) (by decide) (by simp)
  rw [World.size_alloc, World.size_alloc] at this
  exact this
theorem own_empty1 {base : Nat} (w : World) (o : Obj) (e : TypeId) (size : Nat) (hb : base ≤ w.heap.size) : ((w.alloc o).alloc (.cells #[] e)).ownsRow base e size (.slice (some ⟨w.heap.size + 1, 0, none⟩) 0 0) 0 [] := by
  have := World.ownsRow_made (base := base) (e := e) (size := size) (w.alloc o) #[] 0 (by simp; omega) (by decide) (by simp)
  rw [World.size_alloc] at this
  exact this
theorem node_block {wr w3 : World} {cs : Array Value} {o2 : Obj} {t : TypeId} (hg : ((wr.alloc (.cells cs t)).alloc o2).grownBy w3 (some (wr.heap.size + 1))) : w3.heap[wr.heap.size]? = some (.cells cs t (0, 0)) := by
  rw [hg.block _ (by simp; omega) (by simp), Below.heap_alloc _ _ _ (by simp)]
  exact heap_alloc_new wr _
theorem cells_at {W : World} {g o : Nat} {cs : Array Value} {t : TypeId} {u : Value} (h : W.heap[g]? = some (.cells cs t (0, 0))) (ho : cs[o]? = some u) : W.cell? ⟨g, o, none⟩ = some u := by
  unfold World.cell?; dsimp only; rw [h]; exact ho
theorem cells_fz {W : World} {g : Nat} {cs : Array Value} {t : TypeId} (h : W.heap[g]? = some (.cells cs t (0, 0))) (o : Nat) : W.frozen? ⟨g, o, none⟩ = false := by simp [World.frozen?, h]
theorem cell_row_one (w : World) (l : List Value) (t : TypeId) : ∀ j u, l[j]? = some u → (w.alloc (.cells l.toArray t)).cell? ((⟨w.heap.size, 0, none⟩ : Addr).add j) = some u := fun j u h => by
  have := heap_alloc_new w (.cells l.toArray t)
  rw [Addr.add_lit, Nat.zero_add]
  exact cells_at this (by simpa using h)
theorem isG0 {W : World} {g : Nat} {x y : Value} (h : IsGram W g x y) : W.cell? ⟨g, 0, none⟩ = some x := by unfold IsGram at h; simp [World.cell?, h]
theorem isG1 {W : World} {g : Nat} {x y : Value} (h : IsGram W g x y) : W.cell? ⟨g, 1, none⟩ = some y := by unfold IsGram at h; simp [World.cell?, h]
theorem isGF {W : World} {g : Nat} {x y : Value} (h : IsGram W g x y) (o : Nat) : W.frozen? ⟨g, o, none⟩ = false := by unfold IsGram at h; simp [World.frozen?, h]
theorem isG_kept {W W' : World} {g : Nat} {x y : Value} (h : IsGram W g x y) (hb : Below W.heap.size W W') : IsGram W' g x y := by
  unfold IsGram; rw [hb.block g (Array.getElem?_eq_some_iff.1 h).1]; exact h
theorem own_slice' {w : World} {base : Nat} {e : TypeId} {size n : Nat} {v : Value} {xs : List Value} (h : w.ownsRow base e size v n xs) : ∃ a c, v = .slice a n c := by
  rcases h.2 with ⟨e, e0⟩ | ⟨g, cap, cur, e, -⟩
  · exact ⟨none, 0, by rw [e, e0]⟩
  · exact ⟨_, _, e⟩
/-- The copy as it grows. -/
def CopyAt (w : World) (O : Nat) (rs : List PR) (ns : List PN) (rv x src v : Value) (qs : List Value) (k : Nat) (wr : World) : Prop :=
  Below w.heap.size w wr ∧ w.heap.size + 1 < O ∧ IsGram wr O rv v ∧ IsGram wr w.heap.size x src ∧ IsGram wr (w.heap.size + 1) (.slice none 0 0) (.slice none 0 0) ∧ wr.ownsRow w.heap.size 53 2 rv rs.length (rulesC rs) ∧
  wr.ownsRow w.heap.size 37 7 v k (nodesC ((ns.take k).zip qs)) ∧ qs.length = k ∧ ∀ (j : Nat) (n : PN) (q : Value), ns[j]? = some n → qs[j]? = some q → wr.ownsRow w.heap.size 3 1 q n.kids.length (intsV n.kids)
section
variable {w : World} {O : Nat} {rs : List PR} {ns : List PN} {rv x src v : Value} {qs : List Value} {k : Nat} {wr W : World}
theorem CopyAt.kept (h : CopyAt w O rs ns rv x src v qs k wr) (hb : Below wr.heap.size wr W) : CopyAt w O rs ns rv x src v qs k W := by
  obtain ⟨h1, h2, h3, h4, h5, h6, h7, h8, h9⟩ := h
  exact ⟨h1.trans (hb.mono h1.size), h2, isG_kept h3 hb, isG_kept h4 hb, isG_kept h5 hb, ownsRow_grown h6 hb, ownsRow_grown h7 hb, h8, fun j n q a b => ownsRow_grown (h9 j n q a b) hb⟩
theorem own_kept' {w w' : World} {base n : Nat} {e e' : TypeId} {size : Nat} {v : Value} {xs : List Value} {r : Option Nat} (h : w.ownsRow base e size v n xs) (hg : w.grownBy w' r) (hr : ∀ g, r = some g → ∃ c fz, w.heap[g]? = some (.cells c e' fz)) (he : e ≠ e') : w'.ownsRow base e size v n xs := by
  refine h.kept hg ?_
  cases r with
  | none => cases hv : v.ownBlock with
    | none => exact .inl rfl
    | some b => exact .inr (by simp)
  | some g => exact .inr (row_ne h (hr g rfl) he)
theorem isG_grown {w w' : World} {G : Nat} {x y : Value} {e' : TypeId} {r : Option Nat} (h : IsGram w G x y) (hg : w.grownBy w' r) (hr : ∀ g, r = some g → ∃ c fz, w.heap[g]? = some (.cells c e' fz)) (he : 25 ≠ e') : IsGram w' G x y := by
  have hl : G < w.heap.size := (Array.getElem?_eq_some_iff.1 h).1
  unfold IsGram
  rw [hg.block G hl (fun e => by
    obtain ⟨c, fz, hc⟩ := hr G e.symm
    unfold IsGram at h
    rw [h] at hc
    injection hc with hc
    injection hc with _ hc
    exact he hc)]
  exact h
theorem CopyAt.step (h : CopyAt w O rs ns rv x src v qs k wr) {n : PN} (hn : ns[k]? = some n) {kv v' : Value} (hkv : wr.ownsRow w.heap.size 3 1 kv n.kids.length (intsV n.kids)) {o2 : Obj} {w' : World}
    (hown : w'.ownsRow w.heap.size 37 7 v' (k + 1) (nodesC ((ns.take k).zip qs) ++ nodeC (n, kv))) (hg : (wr.alloc o2).grownBy w' v.ownBlock) :
    CopyAt w O rs ns rv x src v' (qs ++ [kv]) (k + 1) (w'.setCell ⟨O, 1, none⟩ v') := by
  have hb := one_new wr o2
  obtain ⟨h1, h2, h3, h4, h5, h6, h7, h8, h9⟩ := h.kept hb
  have kind : ∀ g, v.ownBlock = some g → ∃ c fz, (wr.alloc o2).heap[g]? = some (.cells c 37 fz) := fun g hv => Lib.ownsRow_kind h7 g hv
  have hgr := isG_grown h3 hg kind (by decide)
  have hgk : ∃ c fz, w'.heap[O]? = some (.cells c 25 fz) := ⟨_, _, hgr⟩
  have hlt : k < ns.length := (List.getElem?_eq_some_iff.1 hn).1
  refine ⟨(h1.grown hg h1.size (fun g hv => (h7.lt g hv).1)).setCell (p := ⟨O, 1, none⟩) (by show w.heap.size ≤ O; omega) _, h2, ?_, ?_, ?_, ?_, ?_, by rw [List.length_append, h8]; rfl, fun j m q hj hq => ?_⟩
  · unfold IsGram
    rw [heap_setCell_same _ _ _ _ _ _ hgr]
    rfl
  · unfold IsGram
    rw [heap_setCell_other _ _ _ _ (by show w.heap.size ≠ O; omega)]
    exact isG_grown h4 hg kind (by decide)
  · unfold IsGram
    rw [heap_setCell_other _ _ _ _ (by show w.heap.size + 1 ≠ O; omega)]
    exact isG_grown h5 hg kind (by decide)
  · have := own_kept' h6 hg kind (by decide)
    exact ownsRow_setCell_other this (row_ne this hgk (by decide)) _
  · have := ownsRow_setCell_other hown (a := ⟨O, 1, none⟩) (row_ne hown hgk (by decide)) v'
    rw [take_snoc' ns k n hn, List.zip_append (by rw [List.length_take, h8]; omega)]
    unfold nodesC at this ⊢
    rw [List.flatMap_append]
    simpa using this
  · rw [List.getElem?_append] at hq
    split at hq
    · have a2 := own_kept' (h9 j m q hj hq) hg kind (by decide)
      exact ownsRow_setCell_other a2 (row_ne a2 hgk (by decide)) _
    · have hjk : j = k := by
        have := (List.getElem?_eq_some_iff.1 hq).1
        simp at this
        omega
      subst hjk
      rw [h8, Nat.sub_self] at hq
      obtain rfl := Option.some.inj hq
      obtain rfl := Option.some.inj (hn.symm.trans hj)
      have a2 := own_kept' (ownsRow_grown hkv hb) hg kind (by decide)
      exact ownsRow_setCell_other a2 (row_ne a2 hgk (by decide)) _
theorem CopyAt.done (h : CopyAt w O rs ns rv x src v qs ns.length wr) (y z : Value) : CloneIs rs ns w (.returned (.agg #[rv, v])) ((wr.setCell ⟨w.heap.size + 1, 0, none⟩ y).setCell ⟨w.heap.size + 1, 1, none⟩ z) := by
  obtain ⟨h1, h2, h3, h4, h5, h6, h7, h8, h9⟩ := h
  rw [List.take_of_length_le (Nat.le_refl _)] at h7
  have hgk : ∃ c fz, wr.heap[w.heap.size + 1]? = some (.cells c 25 fz) := ⟨_, _, h5⟩
  have hgk2 : ∃ c fz, (wr.setCell ⟨w.heap.size + 1, 0, none⟩ y).heap[w.heap.size + 1]? = some (.cells c 25 fz) := ⟨_, _, heap_setCell_same _ _ _ _ _ _ h5⟩
  have two : ∀ {e : TypeId} {size n : Nat} {u : Value} {xs : List Value}, wr.ownsRow w.heap.size e size u n xs → e ≠ 25 → ((wr.setCell ⟨w.heap.size + 1, 0, none⟩ y).setCell ⟨w.heap.size + 1, 1, none⟩ z).ownsRow w.heap.size e size u n xs := fun hu he => by
    have a1 := ownsRow_setCell_other hu (a := ⟨w.heap.size + 1, 0, none⟩) (row_ne hu hgk he) y
    exact ownsRow_setCell_other a1 (row_ne a1 hgk2 he) _
  exact ⟨rv, v, qs, rfl, h8, two h6 (by decide), two h7 (by decide), fun j n q a b => two (h9 j n q a b) (by decide), (h1.setCell (p := ⟨w.heap.size + 1, 0, none⟩) (Nat.le_succ _) _).setCell (p := ⟨w.heap.size + 1, 1, none⟩) (Nat.le_succ _) _⟩
end
theorem CopyAt.start {w w1 : World} {rs : List PR} {ns : List PN} {rv src y : Value} (hown : w1.ownsRow w.heap.size 53 2 rv rs.length (rulesC rs))
    (hg : (((w.alloc (.cells #[y, src] 25)).alloc (.cells #[.slice none 0 0, .slice none 0 0] 25)).alloc (.cells #[] 53)).grownBy w1 (some (w.heap.size + 1 + 1))) :
    CopyAt w w1.heap.size rs ns rv y src (.slice none 0 0) [] 0 (w1.alloc (.cells #[rv, .slice none 0 0] 25)) := by
  have hb := ((two_new w (.cells #[y, src] 25) (.cells #[.slice none 0 0, .slice none 0 0] 25)).alloc (by simp; omega) (.cells #[] 53))
  have hb1 := hb.grown hg hb.size (fun g e => by have := Option.some.inj e; omega)
  have hsz := hg.size
  simp at hsz
  have hk0 : IsGram w1 w.heap.size y src := by
    unfold IsGram
    rw [hg.block _ (by simp; omega) (by simp; omega), Below.heap_alloc _ _ _ (by simp; omega), Below.heap_alloc _ _ _ (by simp)]
    exact heap_alloc_new w _
  have hk1 : IsGram w1 (w.heap.size + 1) (.slice none 0 0) (.slice none 0 0) := by
    unfold IsGram
    rw [hg.block _ (by simp) (by simp), Below.heap_alloc _ _ _ (by simp)]
    have := heap_alloc_new (w.alloc (.cells #[y, src] 25)) (.cells #[.slice none 0 0, .slice none 0 0] 25)
    rw [World.size_alloc] at this
    exact this
  have hn := one_new w1 (.cells #[rv, .slice none 0 0] 25)
  exact ⟨hb1.trans (hn.mono hb1.size), by omega, heap_alloc_new w1 _, isG_kept hk0 hn, isG_kept hk1 hn, ownsRow_grown hown hn, World.ownsRow_nil _ _ _ _, rfl, fun j n q _ h => by simp at h⟩
end Go.Proofs.Ytklimoepkifnhaa
