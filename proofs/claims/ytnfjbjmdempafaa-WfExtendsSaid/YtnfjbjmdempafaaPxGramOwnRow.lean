/- append onto nil of a slice that is nil, empty or not; rows of rules and of nodes as lists of cells. -/
import Derived.Maps.AppendAt
import Derived.Laws.AppendOwnNone
import Derived.Lib.OwnKind
import Derived.Deep.AppendSrc
import Derived.Test.YtnfjbjmdempafaaPxA
import Derived.Test.YtnfjbjmdempafaaPxF
namespace Go.Proofs.Ytnfjbjmdempafaa
open Go.RowKit
theorem run_append_none {P : Program} (w : World) (t ty e : TypeId) (i : TypeInfo) (ht : P.underlying t = some (.slice e)) (hi : P.info? e = some i) (c : Nat) : (Builtin.append_ #[t, t] ty #[.slice none 0 0, .slice none 0 c]).run P w = .ok (.slice none 0 0) w := by
  simp [Builtin.append_, run_underlying ht, sizeOf, typeInfo, hi, Builtin.lenOf, Builtin.firstCells]
theorem run_append_zero {P : Program} (w : World) (t ty e : TypeId) (i : TypeInfo) (ht : P.underlying t = some (.slice e)) (hi : P.info? e = some i) (a : Option Addr) (c : Nat) : (Builtin.append_ #[t, t] ty #[.slice none 0 0, .slice a 0 c]).run P w = .ok (.slice none 0 0) w := by
  cases a with
  | none => exact run_append_none w t ty e i ht hi c
  | some a =>
    have h := run_firstCells_some (P := P) w i.size 0 a 0 c [] (by simp) (fun j u h => by simp at h)
    simp [Builtin.append_, run_underlying ht, sizeOf, typeInfo, hi, Builtin.lenOf, h]
/-- append onto nil, whatever the source: the new slice is the call's own; new blocks are rows of its elements. -/
theorem run_append_fresh {P : Program} (w : World) (base : Nat) (t ty e : TypeId) (i : TypeInfo) (z : Value) (size bytes : Nat) (ht : P.underlying t = some (.slice e)) (hi : P.info? e = some i) (hz : i.zero = some z)
    (hsize : i.size = size) (hby : i.bytes = bytes) (hzs : z.cells.size = size) (hsz : 0 < size)
    (a : Option Addr) (m c : Nat) (news : List Value) (hl : news.length = m * size) (ha : m = 0 ∨ ∃ b off, a = some ⟨b, off, none⟩ ∧ ∀ j u, news[j]? = some u → w.cell? ⟨b, off + j, none⟩ = some u) (h1 : ∀ u ∈ news, u.oneCell' = true)
    (h63 : m ≤ maxLen) (hbytes : m * bytes ≤ 140737488355328) (hbase : base ≤ w.heap.size) :
    ∃ v' w', (Builtin.append_ #[t, t] ty #[.slice none 0 0, .slice a m c]).run P w = .ok v' w' ∧ w'.ownsRow base e size v' m news ∧ w.grownBy w' none ∧ ∀ b o, w.heap.size ≤ b → w'.heap[b]? = some o → ∃ cs, o = .cells cs e (0, 0) := by
  rcases Nat.eq_zero_or_pos m with h0 | h0
  · subst h0
    obtain rfl : news = [] := List.length_eq_zero_iff.1 (by rw [hl, Nat.zero_mul])
    exact ⟨_, _, run_append_zero w t ty e i ht hi a c, World.ownsRow_nil _ _ _ _, ⟨rfl, rfl, rfl, Nat.le_refl _, fun _ _ _ => rfl⟩, fun b o hb ho => by rw [Array.getElem?_eq_none hb] at ho; cases ho⟩
  · rcases ha with h | ⟨b, off, rfl, hc⟩
    · omega
    have hn : ∀ j u, news[j]? = some u → w.cell? ((⟨b, off, none⟩ : Addr).add j) = some u := fun j u h => by rw [Addr.add_lit]; exact hc j u h
    obtain ⟨v', w', hr, h2, h3, -, -⟩ := run_append_own_at (P := P) w base t ty e i z size bytes ht hi hz hsize hby hzs hsz (.slice none 0 0) 0 [] (World.ownsRow_nil _ _ _ _) ⟨b, off, none⟩ m c news hl hn h1 (by rw [Nat.zero_add]; exact h63) (by rw [Nat.zero_add]; exact hbytes) hbase
    rw [Nat.zero_add, List.nil_append] at h2
    refine ⟨v', w', hr, h2, h3, fun k o hk ho => ?_⟩
    have hS : Src P i.size t (.slice (some ⟨b, off, none⟩) m c) m news w := Src.ofSlice w ht ⟨b, off, none⟩ m c news (by rw [hsize]; exact hl) hn h1
    have hg := run_append_grow_src (P := P) w t t ty e i z ht hi hz none 0 0 [] (run_firstCells_none w.drew i.size 0 0 0) _ m news hS (by omega) (by unfold maxLen at h63; omega) (by
      have : Builtin.nextslicecap (0 + m) 0 = m := by
        unfold Builtin.nextslicecap; simp; omega
      rw [this, hby]; omega)
    rw [hr] at hg
    injection hg with _ hw
    rw [hw] at ho
    have hkl : k = w.heap.size := by
      rcases Nat.lt_or_ge k (w.drew.alloc (.cells (([] ++ news).toArray ++ Builtin.zeroCells z.cells (grownCap w (0 + m) 0 e - (0 + m))) e)).heap.size with h | h
      · rw [World.size_alloc] at h
        have : w.drew.heap.size = w.heap.size := rfl
        omega
      · rw [Array.getElem?_eq_none h] at ho; cases ho
    subst hkl
    have hnew := heap_alloc_new w.drew (.cells (([] ++ news).toArray ++ Builtin.zeroCells z.cells (grownCap w (0 + m) 0 e - (0 + m))) e)
    have hsz2 : w.drew.heap.size = w.heap.size := rfl
    rw [hsz2] at hnew
    rw [hnew] at ho
    exact ⟨_, (Option.some.inj ho).symm⟩
theorem flat_at {α : Type} (f : α → List Value) (k : Nat) (hk : ∀ x, (f x).length = k) : ∀ (l : List α) (i : Nat) (x : α) (j : Nat), l[i]? = some x → j < k → (l.flatMap f)[i * k + j]? = (f x)[j]?
  | [], i, x, j, h, _ => by simp at h
  | y :: r, 0, x, j, h, hj => by
    obtain rfl : y = x := by simpa using h
    rw [List.flatMap_cons, Nat.zero_mul, Nat.zero_add, List.getElem?_append_left (by rw [hk]; exact hj)]
  | y :: r, i + 1, x, j, h, hj => by
    have ih := flat_at f k hk r i x j (by simpa using h) hj
    rw [List.flatMap_cons, List.getElem?_append_right (by rw [hk, Nat.succ_mul]; omega), hk, show (i + 1) * k + j - k = i * k + j by rw [Nat.succ_mul]; omega]
    exact ih
theorem flat_length {α : Type} (f : α → List Value) (k : Nat) (hk : ∀ x, (f x).length = k) : ∀ (l : List α), (l.flatMap f).length = l.length * k
  | [] => by simp
  | y :: r => by rw [List.flatMap_cons, List.length_append, hk, flat_length f k hk r, List.length_cons, Nat.succ_mul]; omega
theorem flat_inv {α : Type} (f : α → List Value) (k : Nat) (hk : ∀ x, (f x).length = k) (h0 : 0 < k) (l : List α) (m : Nat) (u : Value) (h : (l.flatMap f)[m]? = some u) : ∃ i j x, m = i * k + j ∧ j < k ∧ l[i]? = some x ∧ (f x)[j]? = some u := by
  have hm := (List.getElem?_eq_some_iff.1 h).1
  rw [flat_length f k hk] at hm
  have hi : m / k < l.length := (Nat.div_lt_iff_lt_mul h0).2 hm
  have hj : m % k < k := Nat.mod_lt _ h0
  have e : m = m / k * k + m % k := by rw [Nat.mul_comm]; exact (Nat.div_add_mod m k).symm
  refine ⟨m / k, m % k, l[m / k], e, hj, List.getElem?_eq_getElem hi, ?_⟩
  rw [← flat_at f k hk l (m / k) _ (m % k) (List.getElem?_eq_getElem hi) hj, ← e]; exact h
def ruleC (r : PR) : List Value := [.string r.name, .int .i64 r.root]
def rulesC (rs : List PR) : List Value := rs.flatMap ruleC
def nodeC (p : PN × Value) : List Value := [.int .i64 p.1.op, p.2, .int .i64 p.1.rule, .int .u64 p.1.s0, .int .u64 p.1.s1, .int .u64 p.1.s2, .int .u64 p.1.s3]
def nodesC (ps : List (PN × Value)) : List Value := ps.flatMap nodeC
theorem rulesC_length (rs : List PR) : (rulesC rs).length = rs.length * 2 := flat_length ruleC 2 (fun _ => rfl) rs
theorem rulesC_at {rs : List PR} {i j : Nat} {r : PR} (h : rs[i]? = some r) (hj : j < 2) : (rulesC rs)[i * 2 + j]? = (ruleC r)[j]? := flat_at ruleC 2 (fun _ => rfl) rs i r j h hj
theorem nodesC_at {ps : List (PN × Value)} {i j : Nat} {p : PN × Value} (h : ps[i]? = some p) (hj : j < 7) : (nodesC ps)[i * 7 + j]? = (nodeC p)[j]? := flat_at nodeC 7 (fun _ => rfl) ps i p j h hj
theorem rulesC_one (rs : List PR) : ∀ u ∈ rulesC rs, u.oneCell' = true := by
  intro u hu
  unfold rulesC at hu
  obtain ⟨r, -, hr⟩ := List.mem_flatMap.1 hu
  simp [ruleC] at hr
  rcases hr with rfl | rfl <;> rfl
/-- The cells of rules that lie in memory. -/
theorem RulesIn.cells {w : World} {v : Value} {rs : List PR} (h : RulesIn w v rs) : ∃ a cap, v = .slice a rs.length cap ∧ (rs.length = 0 ∨ ∃ b off, a = some ⟨b, off, none⟩ ∧ ∀ j u, (rulesC rs)[j]? = some u → w.cell? ⟨b, off + j, none⟩ = some u) := by
  obtain ⟨-, a, cap, rfl, h⟩ := h
  refine ⟨a, cap, rfl, ?_⟩
  rcases h with h | ⟨b, off, rfl, hc⟩
  · left; rw [h]; rfl
  · right
    refine ⟨b, off, rfl, fun m u hu => ?_⟩
    obtain ⟨i, j, x, rfl, hj, hx, hxu⟩ := flat_inv ruleC 2 (fun _ => rfl) (by decide) rs m u hu
    obtain ⟨c0, c1⟩ := hc i x hx
    match j, hj, hxu with
    | 0, _, hxu => obtain rfl : _ = u := by simpa [ruleC] using hxu
                   exact c0
    | 1, _, hxu => obtain rfl : _ = u := by simpa [ruleC] using hxu
                   exact c1
theorem RulesIn.of_own {w : World} {base : Nat} {v : Value} {rs : List PR} (h : w.ownsRow base 48 2 v rs.length (rulesC rs)) (hl : rs.length ≤ maxLen) : RulesIn w v rs := by
  refine ⟨hl, ?_⟩
  have h' := h
  rcases h.2 with ⟨rfl, h0⟩ | ⟨g, cap, cur, rfl, -⟩
  · exact ⟨none, 0, by rw [h0], .inl (List.length_eq_zero_iff.1 h0)⟩
  · refine ⟨_, cap, rfl, .inr ⟨g, 0, rfl, fun i r hr => ?_⟩⟩
    have hc : ∀ j u, (rulesC rs)[j]? = some u → w.cell? ⟨g, 0 + j, none⟩ = some u := fun j u hu => by
      have := h'.cells rfl j u hu
      rw [Addr.add_lit] at this; exact this
    exact ⟨by have := hc (i * 2 + 0) _ (rulesC_at hr (by decide)); exact this, by have := hc (i * 2 + 1) _ (rulesC_at hr (by decide)); exact this⟩
theorem zip_at {ns : List PN} {qs : List Value} {i : Nat} {n : PN} {q : Value} (h1 : ns[i]? = some n) (h2 : qs[i]? = some q) : (ns.zip qs)[i]? = some (n, q) := by
  rw [List.getElem?_zip_eq_some]; exact ⟨h1, h2⟩
theorem zip_inv {ns : List PN} {qs : List Value} {i : Nat} {p : PN × Value} (h : (ns.zip qs)[i]? = some p) : ns[i]? = some p.1 ∧ qs[i]? = some p.2 := by
  have := List.getElem?_zip_eq_some.1 h; exact this
/-- The cells of nodes that lie in memory, with the values of their kids. -/
theorem NodesAt.cells {w : World} {v : Value} {ns : List PN} (h : NodesAt w v ns) : ∃ (qs : List Value) (a : Option Addr) (cap : Nat), qs.length = ns.length ∧ v = .slice a ns.length cap ∧ (ns.length = 0 ∨ ∃ b off, a = some ⟨b, off, none⟩ ∧ ∀ j u, (nodesC (ns.zip qs))[j]? = some u → w.cell? ⟨b, off + j, none⟩ = some u) ∧
    ∀ (i : Nat) (n : PN) (q : Value), ns[i]? = some n → qs[i]? = some q → IntsAt w q n.kids ∧ n.kids.length ≤ maxLen := by
  obtain ⟨-, a, cap, rfl, h⟩ := h
  rcases h with h | ⟨b, off, rfl, hc⟩
  · exact ⟨[], a, cap, by rw [h]; rfl, rfl, .inl (by rw [h]; rfl), fun i n q h1 h2 => by rw [h] at h1; simp at h1⟩
  · have hx : ∀ i, ∃ kv, ∀ n, ns[i]? = some n → (w.cell? ⟨b, off + i * 7, none⟩ = some (.int .i64 n.op) ∧ w.cell? ⟨b, off + i * 7 + 1, none⟩ = some kv ∧ w.cell? ⟨b, off + i * 7 + 2, none⟩ = some (.int .i64 n.rule) ∧ w.cell? ⟨b, off + i * 7 + 3, none⟩ = some (.int .u64 n.s0) ∧ w.cell? ⟨b, off + i * 7 + 4, none⟩ = some (.int .u64 n.s1) ∧ w.cell? ⟨b, off + i * 7 + 5, none⟩ = some (.int .u64 n.s2) ∧ w.cell? ⟨b, off + i * 7 + 6, none⟩ = some (.int .u64 n.s3) ∧ IntsAt w kv n.kids ∧ n.kids.length ≤ maxLen) := fun i => by
      cases hn : ns[i]? with
      | none => exact ⟨.nilIface, fun n h => by cases h⟩
      | some n =>
        obtain ⟨kv, hh⟩ := hc i n hn
        exact ⟨kv, fun m hm => by cases hm; exact hh⟩
    refine ⟨(List.range ns.length).map fun i => Classical.choose (hx i), some ⟨b, off, none⟩, cap, by simp, rfl, .inr ⟨b, off, rfl, fun m u hu => ?_⟩, fun i n q h1 h2 => ?_⟩
    · obtain ⟨i, j, p, rfl, hj, hp, hpu⟩ := flat_inv nodeC 7 (fun _ => rfl) (by decide) _ m u hu
      obtain ⟨h1, h2⟩ := zip_inv hp
      have hq : p.2 = Classical.choose (hx i) := by
        rw [List.getElem?_map] at h2
        have hl := (List.getElem?_eq_some_iff.1 h1).1
        rw [List.getElem?_range hl] at h2
        exact (Option.some.inj h2).symm
      obtain ⟨c0, c1, c2, c3, c4, c5, c6, -⟩ := Classical.choose_spec (hx i) p.1 h1
      rw [← hq] at c1
      match j, hj, hpu with
      | 0, _, hpu => obtain rfl : _ = u := by simpa [nodeC] using hpu
                     exact c0
      | 1, _, hpu => obtain rfl : _ = u := by simpa [nodeC] using hpu
                     exact c1
      | 2, _, hpu => obtain rfl : _ = u := by simpa [nodeC] using hpu
                     exact c2
      | 3, _, hpu => obtain rfl : _ = u := by simpa [nodeC] using hpu
                     exact c3
      | 4, _, hpu => obtain rfl : _ = u := by simpa [nodeC] using hpu
                     exact c4
      | 5, _, hpu => obtain rfl : _ = u := by simpa [nodeC] using hpu
                     exact c5
      | 6, _, hpu => obtain rfl : _ = u := by simpa [nodeC] using hpu
                     exact c6
    · rw [List.getElem?_map] at h2
      have hl := (List.getElem?_eq_some_iff.1 h1).1
      rw [List.getElem?_range hl] at h2
      obtain rfl := Option.some.inj h2
      have := Classical.choose_spec (hx i) n h1
      exact ⟨this.2.2.2.2.2.2.2.1, this.2.2.2.2.2.2.2.2⟩
theorem NodesAt.of_own {w : World} {base : Nat} {v : Value} {ns : List PN} {qs : List Value} (h : w.ownsRow base 35 7 v ns.length (nodesC (ns.zip qs))) (hq : qs.length = ns.length) (hl : ns.length ≤ maxLen)
    (hk : ∀ (i : Nat) (n : PN) (q : Value), ns[i]? = some n → qs[i]? = some q → IntsAt w q n.kids ∧ n.kids.length ≤ maxLen) : NodesAt w v ns := by
  refine ⟨hl, ?_⟩
  have h' := h
  rcases h.2 with ⟨rfl, h0⟩ | ⟨g, cap, cur, rfl, -⟩
  · exact ⟨none, 0, by rw [h0], .inl (List.length_eq_zero_iff.1 h0)⟩
  · refine ⟨_, cap, rfl, .inr ⟨g, 0, rfl, fun i n hn => ?_⟩⟩
    have hil := (List.getElem?_eq_some_iff.1 hn).1
    obtain ⟨q, hqq⟩ : ∃ q, qs[i]? = some q := ⟨_, List.getElem?_eq_getElem (by omega)⟩
    have hz := zip_at hn hqq
    have hc : ∀ j u, (nodesC (ns.zip qs))[j]? = some u → w.cell? ⟨g, 0 + j, none⟩ = some u := fun j u hu => by
      have := h'.cells rfl j u hu
      rw [Addr.add_lit] at this; exact this
    obtain ⟨k1, k2⟩ := hk i n q hn hqq
    exact ⟨q, hc (i * 7 + 0) _ (nodesC_at hz (by decide)), hc (i * 7 + 1) _ (nodesC_at hz (by decide)), hc (i * 7 + 2) _ (nodesC_at hz (by decide)), hc (i * 7 + 3) _ (nodesC_at hz (by decide)), hc (i * 7 + 4) _ (nodesC_at hz (by decide)), hc (i * 7 + 5) _ (nodesC_at hz (by decide)), hc (i * 7 + 6) _ (nodesC_at hz (by decide)), k1, k2⟩
theorem IntsAt.of_own {w : World} {base : Nat} {v : Value} {l : List Int} (h : w.ownsRow base 3 1 v l.length (intsV l)) : IntsAt w v l := by
  have h' := h
  rcases h.2 with ⟨rfl, h0⟩ | ⟨g, cap, cur, rfl, -⟩
  · exact ⟨none, 0, by rw [h0], .inl (List.length_eq_zero_iff.1 h0)⟩
  · refine ⟨_, cap, rfl, .inr ⟨g, 0, rfl, fun i x hx => ?_⟩⟩
    have := h'.cells rfl i (.int .i64 x) (by unfold intsV; rw [List.getElem?_map, hx]; rfl)
    rw [Addr.add_lit] at this; exact this
end Go.Proofs.Ytnfjbjmdempafaa
