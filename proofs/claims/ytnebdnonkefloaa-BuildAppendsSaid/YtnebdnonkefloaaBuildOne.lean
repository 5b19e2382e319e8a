/- The reference's one. -/
import Derived.Test.YtnebdnonkefloaaBuildOf
import Derived.Deep.RegionHeld3
namespace Go.Proofs.Ytnebdnonkefloaa
section
open Go.RowKit
/-- What one returns. -/
def OneIs (w0 : World) (qs : List Value) (o : Option (List PN × List PI)) (w : World) (e : Ending) (w' : World) : Prop :=
  match o with
  | none => (∃ a n c, e = .returned (.tuple #[.slice a n c, .slice none 0 0, .bool false])) ∧ Below w.heap.size w w'
  | some (ns', l') => (∃ na nc la lc t, e = .returned (.tuple #[.slice na ns'.length nc, .slice la l'.length lc, .bool true]) ∧ NRow w0.heap.size (.slice na ns'.length nc) ns' (qs ++ t) w' ∧ (∀ g, (Value.slice na ns'.length nc).ownBlock = some g → w.heap.size ≤ g) ∧ ItemsAt w0 (.slice la l'.length lc) l' ∧ ∀ q, q ∈ t → ∀ g, q.ownBlock = some g → w.heap.size ≤ g) ∧ Below w.heap.size w w'
theorem OneIs.no {w0 : World} {qs : List Value} {o : Option (List PN × List PI)} {w w' : World} {a : Option Addr} {n c : Nat} (h : o = none) (hb : Below w.heap.size w w') : OneIs w0 qs o w (.returned (.tuple #[.slice a n c, .slice none 0 0, .bool false])) w' := by
  subst h; exact ⟨⟨a, n, c, rfl⟩, hb⟩
/-- A row of numbers grows: rows of nodes stay. -/
theorem NRow.ints {base : Nat} {v : Value} {ns : List PN} {qs : List Value} {w w' : World} (h : NRow base v ns qs w) {kv : Value} {b k : Nat} {xs : List Value} (hk : w.ownsRow b 3 1 kv k xs) (hq : ∀ q, q ∈ qs → ∀ g, q.ownBlock = some g → kv.ownBlock ≠ some g) (hg : w.grownBy w' kv.ownBlock) : NRow base v ns qs w' := by
  have kind : ∀ g, kv.ownBlock = some g → ∃ c fz, w.heap[g]? = some (.cells c 3 fz) := fun g hv => Lib.ownsRow_kind hk g hv
  refine ⟨h.1, own_kept' h.2.1 hg kind (by decide), fun j n q a b => ?_⟩
  have hr := h.2.2 j n q a b
  refine hr.kept hg ?_
  cases hv : q.ownBlock with
  | none => exact .inl rfl
  | some g => exact .inr (fun e => hq q (List.mem_of_getElem? b) g hv e.symm)
theorem NRow.lt {base : Nat} {v : Value} {ns : List PN} {qs : List Value} {w : World} (h : NRow base v ns qs w) : ∀ q, q ∈ qs → ∀ g, q.ownBlock = some g → g < w.heap.size := fun q hq g hg => by
  obtain ⟨j, hj⟩ := List.getElem?_of_mem hq
  have hl := (List.getElem?_eq_some_iff.1 hj).1
  obtain ⟨n, hn⟩ : ∃ n, ns[j]? = some n := ⟨_, List.getElem?_eq_getElem (by rw [← h.1]; exact hl)⟩
  exact ((h.2.2 j n q hn hj).lt g hg).2
/-- A store into a block of nodes that is not the row's. -/
theorem NRow.set_node {base : Nat} {v : Value} {ns : List PN} {qs : List Value} {w : World} (h : NRow base v ns qs w) {b o : Nat} {t : TypeId} {cs : Array Value} (hb : Bl w b t cs) (h1 : v.ownBlock ≠ some b) (h2 : 3 ≠ t) (u : Value) : NRow base v ns qs (w.setCell ⟨b, o, none⟩ u) :=
  h.set h1 (fun q hq => by
    obtain ⟨j, hj⟩ := List.getElem?_of_mem hq
    have hjl := (List.getElem?_eq_some_iff.1 hj).1
    obtain ⟨n, hn⟩ : ∃ n, ns[j]? = some n := ⟨_, List.getElem?_eq_getElem (by rw [← h.1]; exact hjl)⟩
    exact own_ne (h.2.2 j n q hn hj) hb h2) u
theorem NodesAt.slice {w : World} {v : Value} {ns : List PN} (h : NodesAt w v ns) : ∃ a c, v = .slice a ns.length c := by
  obtain ⟨-, a, c, e, -⟩ := h; exact ⟨a, c, e⟩
/-- The state of the reference's loop. -/
def OneL (w0 : World) (qs : List Value) (w : World) (x : PI) (l : List PI) (res : Option (List PN × List PI × List Int)) (k : Nat) (nv lv : Value) (wr : World) : Prop :=
  ∃ (nsk : List PN) (lk : List PI) (ksk : List Int) (kv : Value) (t : List Value), kidsF oneL (x.kids.toNat - k) nsk lk ksk = res ∧ NRow w0.heap.size nv nsk (qs ++ t) wr ∧ ItemsAt w0 lv lk ∧ k + lk.length < l.length ∧ nsk.length + lk.length ≤ 1000000 ∧ Below w.heap.size w wr ∧
    Bl wr w.heap.size 32 #[.int .i64 x.op, .int .i64 x.kids, .int .i64 x.rule, .int .u64 x.s0, .int .u64 x.s1, .int .u64 x.s2, .int .u64 x.s3] ∧
    Bl wr (w.heap.size + 1) 55 #[.int .i64 x.op, kv, .int .i64 x.rule, .int .u64 x.s0, .int .u64 x.s1, .int .u64 x.s2, .int .u64 x.s3] ∧ wr.ownsRow (w.heap.size + 2) 3 1 kv k (intsV ksk) ∧ ksk.length = k ∧
    nv.ownBlock ≠ some (w.heap.size + 1) ∧ (∀ q, q ∈ t → ∀ g, q.ownBlock = some g → w.heap.size ≤ g) ∧ ∀ q, q ∈ t → ∀ g, q.ownBlock = some g → kv.ownBlock ≠ some g
theorem OneL.step {w0 w wr w2 w5 : World} {qs t t' : List Value} {x : PI} {l l2 : List PI} {res : Option (List PN × List PI × List Int)} {k : Nat} {nv2 lv2 kv v5 : Value} {n2 : List PN} {ksk : List Int} {z : Int} {o : Obj}
    (h1 : kidsF oneL (x.kids.toNat - (k + 1)) n2 l2 (ksk ++ [z]) = res) (hkl : ksk.length = k) (hl2 : k + 1 + l2.length < l.length) (hbd : n2.length + l2.length ≤ 1000000) (hI : ItemsAt w0 lv2 l2)
    (hN2 : NRow w0.heap.size nv2 n2 (qs ++ t ++ t') w2) (hb : Below wr.heap.size wr w2) (hbW : Below w.heap.size w wr)
    (hA : Bl wr w.heap.size 32 #[.int .i64 x.op, .int .i64 x.kids, .int .i64 x.rule, .int .u64 x.s0, .int .u64 x.s1, .int .u64 x.s2, .int .u64 x.s3])
    (hX : Bl wr (w.heap.size + 1) 55 #[.int .i64 x.op, kv, .int .i64 x.rule, .int .u64 x.s0, .int .u64 x.s1, .int .u64 x.s2, .int .u64 x.s3]) (hkv : wr.ownsRow (w.heap.size + 2) 3 1 kv k (intsV ksk))
    (hqs : ∀ q, q ∈ qs → ∀ g, q.ownBlock = some g → g < w.heap.size) (ht : ∀ q, q ∈ t → ∀ g, q.ownBlock = some g → w.heap.size ≤ g) (hta : ∀ q, q ∈ t → ∀ g, q.ownBlock = some g → kv.ownBlock ≠ some g) (ht' : ∀ q, q ∈ t' → ∀ g, q.ownBlock = some g → wr.heap.size ≤ g)
    (hnv2 : ∀ g, nv2.ownBlock = some g → wr.heap.size ≤ g)
    (hown : w5.ownsRow (w.heap.size + 2) 3 1 v5 (k + 1) (intsV ksk ++ [.int .i64 z])) (hg : (w2.alloc o).grownBy w5 kv.ownBlock) (hat : v5.ownBlock = kv.ownBlock ∨ v5.ownBlock = some (w2.alloc o).heap.size) :
    OneL w0 qs w x l res (k + 1) nv2 lv2 (w5.setCell ⟨w.heap.size + 1, 1, none⟩ v5) := by
  have hb3 := one_new w2 o
  have hkv3 := ownsRow_grown (ownsRow_grown hkv hb) hb3
  have kind : ∀ g, kv.ownBlock = some g → ∃ c fz, (w2.alloc o).heap[g]? = some (.cells c 3 fz) := fun g hv => Lib.ownsRow_kind hkv3 g hv
  have hap : ∀ q, q ∈ qs ++ t ++ t' → ∀ g, q.ownBlock = some g → kv.ownBlock ≠ some g := fun q hq g hgq e => by
    have hl := hkv.lt g e
    rcases List.mem_append.1 hq with hq | hq
    · rcases List.mem_append.1 hq with hq | hq
      · have := hqs q hq g hgq; omega
      · exact hta q hq g hgq e
    · have := ht' q hq g hgq; omega
  have hlt := hN2.lt
  have hN5 := (hN2.grown hb3).ints hkv3 hap hg
  have hX5 := ((hX.below hb).below hb3).grown hg (fun g e => by obtain ⟨c, fz, hc⟩ := kind g e; exact ⟨c, _, fz, hc, by decide⟩)
  have hA5 := ((hA.below hb).below hb3).grown hg (fun g e => by obtain ⟨c, fz, hc⟩ := kind g e; exact ⟨c, _, fz, hc, by decide⟩)
  have hxl := hX.lt
  have hnx : nv2.ownBlock ≠ some (w.heap.size + 1) := fun e => by have := hnv2 _ e; omega
  have hbb := (hbW.trans (hb.mono hbW.size)).trans (hb3.mono (Nat.le_trans hbW.size hb.size))
  refine ⟨n2, l2, ksk ++ [z], v5, t ++ t', h1, ?_, hI, hl2, hbd, ?_, hA5.other (by omega) _, hX5.set' _, ?_, by rw [List.length_append, hkl]; rfl, hnx, fun q hq g hgq => ?_, fun q hq g hgq e => ?_⟩
  · rw [← List.append_assoc]
    exact hN5.set_node hX5 hnx (by decide) _
  · exact (hbb.grown hg hbb.size (fun g e => by have := (hkv.lt g e).1; omega)).setCell (p := ⟨w.heap.size + 1, 1, none⟩) (Nat.le_succ _) _
  · have := ownsRow_setCell_other hown (a := ⟨w.heap.size + 1, 1, none⟩) (own_ne hown hX5 (by decide)) v5
    unfold intsV at this ⊢
    rw [List.map_append]; exact this
  · rcases List.mem_append.1 hq with hq | hq
    · exact ht q hq g hgq
    · have := ht' q hq g hgq
      have := hbW.size
      omega
  · have hm : q ∈ qs ++ t ++ t' := by rw [List.append_assoc]; exact List.mem_append_right _ hq
    rcases hat with h | h
    · rw [h] at e; exact hap q hm g hgq e
    · rw [h] at e
      injection e with e
      have := hlt q hm g hgq
      simp at e; omega
/-- append onto an empty slice of the call's own, in a region that draws. -/
theorem step_append_empty {ops : Array Oper} {o : Oper} {a : Act} {w : World} {K : Act → World → Prop} {Q : Exit → Act → World → Prop} {E : Prop} (hgd : o.guard = none) (s x : Operand) (t : TypeId)
    (ho : o.op = .call { callee := .builtin .append, args := #[s, x], argTypes := #[t, t] })
    (base : Nat) (e : TypeId) (i : TypeInfo) (z : Value) (size bytes : Nat) (ht : Try.prog.underlying t = some (.slice e)) (hi : Try.prog.info? e = some i) (hz : i.zero = some z)
    (hsize : i.size = size) (hby : i.bytes = bytes) (hzs : z.cells.size = size) (hsz : 0 < size) (B : Nat) (hs : a.eval s = .slice (some ⟨B, 0, none⟩) 0 0) (hB : Bl w B e #[]) (hbB : base ≤ B)
    (ka : Option Addr) (m c : Nat) (news : List Value) (hx : a.eval x = .slice ka m c) (hl : news.length = m * size) (ha : m = 0 ∨ ∃ b off, ka = some ⟨b, off, none⟩ ∧ ∀ j u, news[j]? = some u → w.cell? ⟨b, off + j, none⟩ = some u) (h1 : ∀ u ∈ news, u.oneCell' = true)
    (h63 : m ≤ maxLen) (hbytes : m * bytes ≤ 140737488355328)
    (h : ∀ a' cap' w', w'.ownsRow base e size (.slice a' m cap') m news → w.grownBy w' (some B) → K (a.put o.dst (.slice a' m cap')) w') :
    if Region.wanted o (yielded ops a.tmps) = true then Oper.wp Try.prog o a w K Q else E := by
  have hw : Region.wanted o (yielded ops a.tmps) = true := by simp [Region.wanted, hgd]
  rw [if_pos hw]
  have hbl := hB.lt
  have hown : w.ownsRow base e size (.slice (some ⟨B, 0, none⟩) 0 0) 0 [] := ⟨by simp, .inr ⟨B, 0, #[], rfl, hbB, hB, Nat.le_refl _, Nat.zero_le _, by simp, by simp⟩⟩
  obtain ⟨v', w', hr, h2, h3⟩ := run_append_empty (P := Try.prog) w base t o.type e i z size bytes ht hi hz hsize hby hzs hsz B hown ka m c news hl ha h1 h63 hbytes (by omega)
  obtain ⟨a', cap', rfl⟩ : ∃ a' c', v' = .slice a' m c' := by
    rcases h2.2 with ⟨e, e0⟩ | ⟨g, cap, cur, e, -⟩
    · exact ⟨none, 0, by rw [e, e0]⟩
    · exact ⟨_, _, e⟩
  unfold Oper.wp execOp
  simp only [ho, resolve, invoke, builtin, Sem.run_bind, Sem.run_pure, Result.andThen_ok, List.map_toArray, List.map_cons, List.map_nil, hs, hx, hr]
  exact h a' cap' w' h2 h3
/-- append onto a row of the call's own, in a region that draws. -/
theorem step_append_own {ops : Array Oper} {o : Oper} {a : Act} {w : World} {K : Act → World → Prop} {Q : Exit → Act → World → Prop} {E : Prop} (hgd : o.guard = none) (s x : Operand) (t : TypeId)
    (ho : o.op = .call { callee := .builtin .append, args := #[s, x], argTypes := #[t, t] })
    (base : Nat) (e : TypeId) (i : TypeInfo) (z : Value) (size bytes : Nat) (ht : Try.prog.underlying t = some (.slice e)) (hi : Try.prog.info? e = some i) (hz : i.zero = some z)
    (hsize : i.size = size) (hby : i.bytes = bytes) (hzs : z.cells.size = size) (hsz : 0 < size) (v : Value) (n : Nat) (xs : List Value) (hs : a.eval s = v) (hown : w.ownsRow base e size v n xs)
    (ad : Addr) (m c : Nat) (news : List Value) (hx : a.eval x = .slice (some ad) m c) (hl : news.length = m * size) (hnews : ∀ j u, news[j]? = some u → w.cell? (ad.add j) = some u) (h1 : ∀ u ∈ news, u.oneCell' = true)
    (h63 : n + m ≤ maxLen) (hbytes : (n + m) * bytes ≤ 140737488355328) (hbase : base ≤ w.heap.size)
    (h : ∀ a' cap' w', w'.ownsRow base e size (.slice a' (n + m) cap') (n + m) (xs ++ news) → w.grownBy w' v.ownBlock → ((Value.slice a' (n + m) cap').ownBlock = v.ownBlock ∨ (Value.slice a' (n + m) cap').ownBlock = some w.heap.size) → K (a.put o.dst (.slice a' (n + m) cap')) w') :
    if Region.wanted o (yielded ops a.tmps) = true then Oper.wp Try.prog o a w K Q else E := by
  have hw : Region.wanted o (yielded ops a.tmps) = true := by simp [Region.wanted, hgd]
  rw [if_pos hw]
  obtain ⟨v', w', hr, h2, h3, -, h5⟩ := run_append_own_at (P := Try.prog) w base t o.type e i z size bytes ht hi hz hsize hby hzs hsz v n xs hown ad m c news hl hnews h1 h63 hbytes hbase
  obtain ⟨a', cap', rfl⟩ : ∃ a' c', v' = .slice a' (n + m) c' := by
    rcases h2.2 with ⟨e, e0⟩ | ⟨g, cap, cur, e, -⟩
    · exact ⟨none, 0, by rw [e, e0]⟩
    · exact ⟨_, _, e⟩
  unfold Oper.wp execOp
  simp only [ho, resolve, invoke, builtin, Sem.run_bind, Sem.run_pure, Result.andThen_ok, List.map_toArray, List.map_cons, List.map_nil, hs, hx, hr]
  exact h a' cap' w' h2 h3 h5
/-- What the last region of one loads stays. -/
theorem oneS {X n0 : Nat} {c0 c1 c2 c3 c4 c5 c6 : Value} {wr W : World} (hX : Bl wr X 55 #[c0, c1, c2, c3, c4, c5, c6]) (hn : n0 = wr.heap.size) (hb : Below n0 wr W) :
    W.cell? ⟨X, 0, none⟩ = some c0 ∧ W.cell? ⟨X, 1, none⟩ = some c1 ∧ W.cell? ⟨X, 2, none⟩ = some c2 ∧ W.cell? ⟨X, 3, none⟩ = some c3 ∧ W.cell? ⟨X, 4, none⟩ = some c4 ∧ W.cell? ⟨X, 5, none⟩ = some c5 ∧ W.cell? ⟨X, 6, none⟩ = some c6 ∧ Below n0 wr W := by
  subst hn
  have h := hX.below hb
  exact ⟨h.cell rfl, h.cell rfl, h.cell rfl, h.cell rfl, h.cell rfl, h.cell rfl, h.cell rfl, hb⟩
theorem src_kept {n n0 : Nat} {ka : Option Addr} {news : List Value} {wr W : World} (h : n = 0 ∨ ∃ b off, ka = some ⟨b, off, none⟩ ∧ ∀ j u, news[j]? = some u → wr.cell? ⟨b, off + j, none⟩ = some u) (hn : n0 = wr.heap.size) (hb : Below n0 wr W) :
    n = 0 ∨ ∃ b off, ka = some ⟨b, off, none⟩ ∧ ∀ j u, news[j]? = some u → W.cell? ⟨b, off + j, none⟩ = some u := by
  subst hn
  rcases h with h | ⟨b, off, e, hc⟩
  · exact .inl h
  · exact .inr ⟨b, off, e, fun j u hu => by have := hc j u hu; rw [(bcell hb).1 _ _ (lt_of_cell this)]; exact this⟩
theorem Bl.news {W : World} {b : Nat} {t : TypeId} {cs : List Value} (h : Bl W b t cs.toArray) : ∀ j u, cs[j]? = some u → W.cell? ((⟨b, 0, none⟩ : Addr).add j) = some u := fun j u hu => by
  rw [Addr.add_lit, Nat.zero_add]
  exact h.cell (by rw [List.getElem?_toArray]; exact hu)
theorem Bl.grown' {w w' : World} {b : Nat} {t : TypeId} {cs : Array Value} {r : Option Nat} (h : Bl w b t cs) (hg : w.grownBy w' r) (hr : r ≠ some b) : Bl w' b t cs := by
  unfold Bl
  rw [hg.block b h.lt (fun e => hr e.symm)]
  exact h
theorem Bl.new' {w : World} {B : Nat} {t : TypeId} {cs : Array Value} (hB : B = w.heap.size) : Bl (w.alloc (.cells cs t)) B t cs := by subst hB; exact Bl.new w t cs
theorem Bl.drew {w : World} {b : Nat} {t : TypeId} {cs : Array Value} (h : Bl w b t cs) : Bl w.drew b t cs := h
theorem Bl.past {w : World} {b : Nat} {t : TypeId} {cs : Array Value} {o : Obj} (h : Bl w b t cs) : Bl (w.alloc o) b t cs := h.below (one_new w o)
theorem below_alloc' {n0 : Nat} {wr W : World} (h : Below n0 wr W) (hn : n0 = wr.heap.size) (o : Obj) : Below n0 wr (W.alloc o) := h.alloc (by rw [hn]; exact h.size) o
theorem OneIs.yes {w0 w wr w2 : World} {qs t : List Value} {ns nsk : List PN} {l lk : List PI} {x : PI} {ksk : List Int} {nv kv : Value} {a3 a4 : Option Addr} {c3 c4 : Nat} (hR : oneL ns l = some (nsk ++ [x.node ksk], lk)) (hN : NRow w0.heap.size nv nsk (qs ++ t) wr) (hI : ItemsAt w0 (.slice a4 lk.length c4) lk)
    (hbW : Below w.heap.size w wr) (hw0 : w0.heap.size ≤ w.heap.size) (hkv : wr.ownsRow (w.heap.size + 2) 3 1 kv ksk.length (intsV ksk)) (ht : ∀ q, q ∈ t → ∀ g, q.ownBlock = some g → w.heap.size ≤ g) (hb : Below wr.heap.size wr w2)
    (hown : w2.ownsRow wr.heap.size 55 7 (.slice a3 (nsk.length + 1) c3) (nsk.length + 1) (nodesC (nsk.zip (qs ++ t)) ++ nodeC (x.node ksk, kv))) :
    OneIs w0 qs (oneL ns l) w (.returned (.tuple #[.slice a3 (nsk.length + 1) c3, .slice a4 lk.length c4, .bool true])) w2 := by
  rw [hR]
  have hwr := hbW.size
  have hbb : Below w.heap.size w w2 := hbW.trans (hb.mono hwr)
  refine ⟨⟨a3, c3, a4, c4, t ++ [kv], by rw [List.length_append]; rfl, ⟨?_, ?_, fun j n q a b => ?_⟩, fun g hg => ?_, hI, fun q hq g hgq => ?_⟩, hbb⟩
  · have h1 := hN.1
    rw [List.length_append] at h1
    rw [← List.append_assoc, List.length_append, List.length_append, List.length_append, h1]; rfl
  · have := own_mono hown (base' := w0.heap.size) (by omega)
    rw [← List.append_assoc, List.zip_append hN.1.symm]
    unfold nodesC at this ⊢
    rw [List.flatMap_append, List.length_append]
    simpa using this
  · rw [← List.append_assoc] at b
    rcases Nat.lt_or_ge j nsk.length with hj | hj
    · rw [List.getElem?_append_left hj] at a
      rw [List.getElem?_append_left (by rw [hN.1]; exact hj)] at b
      exact ownsRow_grown (hN.2.2 j n q a b) hb
    · have hje : j = nsk.length := by
        have := (List.getElem?_eq_some_iff.1 a).1
        simp at this; omega
      subst hje
      rw [List.getElem?_append_right (Nat.le_refl _), Nat.sub_self] at a
      rw [List.getElem?_append_right (by rw [hN.1]; exact Nat.le_refl _), hN.1, Nat.sub_self] at b
      obtain rfl := Option.some.inj a
      obtain rfl := Option.some.inj b
      exact own_mono (ownsRow_grown hkv hb) (by omega)
  · have : (Value.slice a3 (nsk.length + 1) c3).ownBlock = some g := by rw [← hg, List.length_append]; rfl
    have := (hown.lt g this).1
    omega
  · rcases List.mem_append.1 hq with hq | hq
    · exact ht q hq g hgq
    · obtain rfl := List.mem_singleton.1 hq
      have := (hkv.lt g hgq).1
      omega
end
section
open Go.RowKit
set_option maxHeartbeats 8000000 in
set_option maxRecDepth 100000 in
theorem one_nil (w0 : World) (nv lv : Value) (ns : List PN) (qs : List Value) (w : World) (hN : NRow w0.heap.size nv ns qs w) (hI : ItemsAt w0 lv []) : Calls Try.prog 33 #[nv, lv] w (OneIs w0 qs none w) := by
  obtain ⟨na, nc, rfl⟩ := own_slice' hN.2.1
  obtain ⟨la, lc, rfl⟩ := hI.slice
  clear hN hI
  go_enter Try.func33, Try.ntmps33
  go_wp2
  go_ret3
  exact ⟨⟨_, _, _, rfl⟩, Below.refl _ _⟩
set_option maxHeartbeats 8000000 in
set_option maxRecDepth 100000 in
theorem one_neg (w0 : World) (nv lv : Value) (ns : List PN) (qs : List Value) (x : PI) (r : List PI) (w : World) (hl : r.length ≤ 1000000) (hb : Below w0.heap.size w0 w) (hN : NRow w0.heap.size nv ns qs w) (hI : ItemsAt w0 lv (x :: r)) (hx : x.kids < 0) : Calls Try.prog 33 #[nv, lv] w (OneIs w0 qs none w) := by
  obtain ⟨na, nc, rfl⟩ := own_slice' hN.2.1
  obtain ⟨la, lc, rfl⟩ := hI.slice
  obtain ⟨b, off, rfl, c0, c1, c2, c3, c4, c5, c6⟩ := (hI.kept hb (Nat.le_refl _)).at (i := 0) (x := x) rfl
  rw [List.length_cons]
  have k0 : ((r.length + 1 : Nat) : Int) ≠ 0 := by omega
  have k1 : (((r.length + 1 : Nat) : Int) == 0) = false := ibeq_no k0
  have k2 : (0 : Int) < ((r.length + 1 : Nat) : Int) := by omega
  rw [Nat.zero_mul] at c1
  clear hN hI hb c0 c2 c3 c4 c5 c6
  go_enter Try.func33, Try.ntmps33
  go_wp2
  go_ret3
  exact ⟨⟨_, _, _, rfl⟩, Below.refl _ _⟩
set_option maxHeartbeats 8000000 in
set_option maxRecDepth 100000 in
theorem one_any (w0 : World) : ∀ (f : Nat) (nv lv : Value) (ns : List PN) (qs : List Value) (l : List PI) (w : World), l.length < f → Below w0.heap.size w0 w → NRow w0.heap.size nv ns qs w → ItemsAt w0 lv l → ns.length + l.length ≤ 1000000 → Calls Try.prog 33 #[nv, lv] w (OneIs w0 qs (oneL ns l) w)
  | 0, _, _, _, _, _, _, h, _, _, _, _ => absurd h (Nat.not_lt_zero _)
  | f + 1, nv, lv, ns, qs, [], w, _, _, hN, hI, _ => by rw [oneL_nil]; exact one_nil w0 nv lv ns qs w hN hI
  | f + 1, nv, lv, ns, qs, x :: r, w, hf, hb, hN, hI, hbd => by
    rw [List.length_cons] at hf hbd
    by_cases h0 : x.kids < 0
    · rw [oneL_neg h0]; exact one_neg w0 nv lv ns qs x r w (by omega) hb hN hI h0
    have IH := Lib.hid (one_any w0 f)
    obtain ⟨na, nc, rfl⟩ := own_slice' hN.2.1
    obtain ⟨la, lc, rfl⟩ := hI.slice
    obtain ⟨b, off, rfl, c0, c1, c2, c3, c4, c5, c6⟩ := (hI.kept hb (Nat.le_refl _)).at (i := 0) (x := x) rfl
    have hcap := hI.cap
    have HD := Lib.hid (hI.drop (k := 1) (by rw [List.length_cons]; omega) (c' := lc - 1) (by omega))
    rw [Nat.zero_mul, Nat.add_zero] at c0 c1 c2 c3 c4 c5 c6
    rw [List.length_cons] at hcap ⊢
    have hw0 := hb.size
    have hqs := Lib.hid hN.lt
    have hnx : Hid ((Value.slice na ns.length nc).ownBlock ≠ some (w.heap.size + 1)) := Lib.hid (own_block_lt hN.2.1 (Nat.le_succ _))
    have HBW := Lib.hid hb
    have k0 : ((r.length + 1 : Nat) : Int) ≠ 0 := by omega
    have k1 : (((r.length + 1 : Nat) : Int) == 0) = false := ibeq_no k0
    have k2 : (0 : Int) < ((r.length + 1 : Nat) : Int) := by omega
    have hb2 := two_new w (.cells #[.int .i64 x.op, .int .i64 x.kids, .int .i64 x.rule, .int .u64 x.s0, .int .u64 x.s1, .int .u64 x.s2, .int .u64 x.s3] 32) (.cells #[.int .i64 x.op, .slice none 0 0, .int .i64 x.rule, .int .u64 x.s0, .int .u64 x.s1, .int .u64 x.s2, .int .u64 x.s3] 55)
    have HN := Lib.hid (hN.grown hb2)
    have hA : Bl ((w.alloc (.cells #[.int .i64 x.op, .int .i64 x.kids, .int .i64 x.rule, .int .u64 x.s0, .int .u64 x.s1, .int .u64 x.s2, .int .u64 x.s3] 32)).alloc (.cells #[.int .i64 x.op, .slice none 0 0, .int .i64 x.rule, .int .u64 x.s0, .int .u64 x.s1, .int .u64 x.s2, .int .u64 x.s3] 55)) w.heap.size 32 #[.int .i64 x.op, .int .i64 x.kids, .int .i64 x.rule, .int .u64 x.s0, .int .u64 x.s1, .int .u64 x.s2, .int .u64 x.s3] := (Bl.new w _ _).below (one_new _ _)
    have hX : Bl ((w.alloc (.cells #[.int .i64 x.op, .int .i64 x.kids, .int .i64 x.rule, .int .u64 x.s0, .int .u64 x.s1, .int .u64 x.s2, .int .u64 x.s3] 32)).alloc (.cells #[.int .i64 x.op, .slice none 0 0, .int .i64 x.rule, .int .u64 x.s0, .int .u64 x.s1, .int .u64 x.s2, .int .u64 x.s3] 55)) (w.heap.size + 1) 55 #[.int .i64 x.op, .slice none 0 0, .int .i64 x.rule, .int .u64 x.s0, .int .u64 x.s1, .int .u64 x.s2, .int .u64 x.s3] := by
      have := Bl.new (w.alloc (.cells #[.int .i64 x.op, .int .i64 x.kids, .int .i64 x.rule, .int .u64 x.s0, .int .u64 x.s1, .int .u64 x.s2, .int .u64 x.s3] 32)) 55 #[.int .i64 x.op, .slice none 0 0, .int .i64 x.rule, .int .u64 x.s0, .int .u64 x.s1, .int .u64 x.s2, .int .u64 x.s3]
      simpa using this
    have HA := Lib.hid hA
    have HX := Lib.hid hX
    have HB2 := Lib.hid hb2
    clear hN hI hA hX hb2 hb
    go_enter Try.func33, Try.ntmps33
    go_wp2
    all_goals
      clear c0 c1 c2 c3 c4 c5 c6
      go_loopw [10, 0, 1, 9] (fun vk vn vl vo wr => ∃ (k n1 c1 n2 c2 : Nat) (a1 a2 : Option Addr), k ≤ x.kids.toNat ∧ vk = .int .i64 k ∧ vn = .slice a1 n1 c1 ∧ vl = .slice a2 n2 c2 ∧ vo = .bool true ∧ OneL w0 qs w x (x :: r) (kidsF oneL x.kids.toNat ns r []) k vn vl wr) (fun vk _ _ _ _ => x.kids.toNat - (intOf vk).toNat)
      case atStart =>
        refine ⟨0, _, _, _, _, _, _, Nat.zero_le _, rfl, rfl, rfl, rfl, ns, r, [], .slice none 0 0, [], rfl, by rw [List.append_nil]; exact HN.out, ?_, by rw [List.length_cons]; omega, by omega, HB2.out, HA.out, HX.out, World.ownsRow_nil _ _ _ _, rfl, hnx.out, fun q h => (nomatch h), fun q h => (nomatch h)⟩
        first
          | exact HD.out
          | exact ⟨by unfold maxLen; omega, _, _, rfl, by omega, .inl (by omega)⟩
      case round =>
        obtain ⟨k, n1, d1, n2, d2, a1, a2, hk, rfl, rfl, rfl, rfl, hL⟩ := hrel
        clear HN HD HA HX HB2 hnx
        obtain ⟨nsk, lk, ksk, kv, t, h1, hN, hI, hlk, hbk, hbW, hA, hX, hkv, hkl, hnv, ht, hta⟩ := hL
        obtain rfl : n1 = nsk.length := by obtain ⟨_, _, e⟩ := own_slice' hN.2.1; exact (Value.slice.inj e).2.1
        obtain rfl : n2 = lk.length := by obtain ⟨_, _, e⟩ := hI.slice; exact (Value.slice.inj e).2.1
        obtain ⟨ka, kc, rfl⟩ := own_slice' hkv
        rw [List.length_cons] at hlk
        have b1 : wr.cell? ⟨w.heap.size, 1, none⟩ = some (.int .i64 x.kids) := hA.cell rfl
        have hbase := hbW.size
        by_cases hlt2 : k < x.kids.toNat
        · have k3 : (k : Int) < x.kids := by omega
          have hC := Lib.hid (IH.out (.slice a1 nsk.length d1) (.slice a2 lk.length d2) nsk (qs ++ t) lk wr (by omega) (HBW.out.trans (hbW.mono hw0)) hN hI hbk)
          have hsk : x.kids.toNat - k = (x.kids.toNat - (k + 1)) + 1 := by omega
          rw [hsk] at h1
          clear hsk
          cases ho : oneL nsk lk with
          | none =>
            rw [kidsF_none ho] at h1
            have hR := Lib.hid (oneL_none (x := x) h1.symm)
            rw [ho] at hC
            unfold OneIs at hC
            have HBW2 := Lib.hid hbW
            clear h1 hN hI hbW hA hX hkv hnv ht hta ho hlk hbk hkl
            go_wp2_with (go_at_call 33; (with_reducible refine hC.out.mono ?_); rintro e w2 ⟨⟨a3, n3, c3, rfl⟩, hb2⟩; have HB3 := Lib.hid (HBW2.out.trans (hb2.mono hbase)); clear hb2)
            go_ret3
            exact OneIs.no hR.out HB3.out
          | some y =>
            obtain ⟨n2, l2⟩ := y
            rw [kidsF_some ho] at h1
            obtain ⟨d, m, hd1, hm1, hm2, hm3⟩ := oneL_cut ho
            have hnb : n2.length + l2.length ≤ 1000000 := by
              have := congrArg List.length hd1
              rw [List.length_append] at this
              rw [hm1, List.length_append]; omega
            have hlb : k + 1 + l2.length < r.length + 1 := by
              have := congrArg List.length hd1
              rw [List.length_append] at this
              omega
            rw [ho] at hC
            unfold OneIs at hC
            obtain ⟨ii, hii, hzi0, hzi1, hzi2⟩ := info_parts infoInt
            have hkb : k ≤ 1000000 := by omega
            have HNB := Lib.hid hnb
            have HLB := Lib.hid hlb
            have hnb' : (n2.length : Int) ≤ 1000000 := by omega
            clear hnb hlb
            have H1 := Lib.hid h1
            have HBW2 := Lib.hid hbW
            have HA := Lib.hid hA
            have HX := Lib.hid hX
            have HKV := Lib.hid hkv
            have HT := Lib.hid ht
            have HTA := Lib.hid hta
            clear h1 hN hI hbW hA hX hkv hnv ht hta ho hlk hbk hd1 hm1 hm2 hm3
            go_wp2_with (first
              | (go_at_call 33; (with_reducible refine hC.out.mono ?_); rintro e w2 ⟨⟨na2, nc2, la2, lc2, t', rfl, hN2, hnv2, hI2, ht'⟩, hb2⟩; have hx2 := HX.out.below hb2; have x1 := hx2.cell (o := 1) rfl; have xf := hx2.free 1; have HX2 := Lib.hid hx2; have a1' : w2.cell? ⟨w.heap.size, 1, none⟩ = some (.int .i64 x.kids) := (HA.out.below hb2).cell rfl; have hsz2 := hb2.size; have HN2 := Lib.hid hN2; have HNV2 := Lib.hid hnv2; have HI2 := Lib.hid hI2; have HT2 := Lib.hid ht'; have HB2 := Lib.hid hb2; have HKV2 := Lib.hid (ownsRow_grown HKV.out hb2); clear hx2 hN2 hnv2 hI2 ht' hb2)
              | (at_builtin; refine wpList_append_own_at _ rfl _ _ 53 rfl (w.heap.size + 2) 3 ii (.int .i64 0) 1 8 Try.underlying53 hii hzi0 hzi1 hzi2 rfl (by decide) _ k _ rfl (ownsRow_grown HKV2.out (one_new _ _)) ⟨w2.heap.size, 0, none⟩ 1 1 [.int .i64 ((n2.length : Int) - 1)] rfl rfl (cell_one_new _ _ _) (by simp [Value.oneCell']) (by unfold maxLen; omega) (by omega) (by have := HX2.out.lt; simp; omega) ?_; intro v5 w5 hown' hgrow _ hat; obtain ⟨va5, vc5, rfl⟩ := own_slice' hown'; have hx5 := (HX2.out.below (one_new w2 _)).grown hgrow (fun g e => by obtain ⟨c, fz, hc⟩ := Lib.ownsRow_kind (ownsRow_grown HKV2.out (one_new w2 _)) g e; exact ⟨c, _, fz, hc, by decide⟩); have x15 := hx5.cell (o := 1) rfl; have xf5 := hx5.free 1; have HO := Lib.hid hown'; have HG := Lib.hid hgrow; have HAT := Lib.hid hat; clear hown' hgrow hat hx5))
            go_roundw
            case rel => exact ⟨k + 1, _, _, _, _, _, _, by omega, by go_num, rfl, rfl, rfl, OneL.step H1.out hkl (by rw [List.length_cons]; exact HLB.out) HNB.out HI2.out HN2.out HB2.out HBW2.out HA.out HX.out HKV.out hqs.out HT.out HTA.out HT2.out HNV2.out HO.out HG.out HAT.out⟩
            case measure => simp [intOf]; omega
        · have hke : x.kids.toNat - k = 0 := by omega
          rw [hke, kidsF_zero] at h1
          have HR := Lib.hid (oneL_some (by omega) h1.symm)
          subst hkl
          obtain ⟨ie, hie, hze0, hze1, hze2⟩ := info_parts infoNode
          have k3 : ¬ (ksk.length : Int) < x.kids := by omega
          have hnl : nsk.length ≤ 1000000 := by omega
          have HX := Lib.hid hX
          have HN := Lib.hid hN
          have HI := Lib.hid hI
          have HBW2 := Lib.hid hbW
          have HKV := Lib.hid hkv
          have HT := Lib.hid ht
          have HNC := Lib.hid (CellsAt.of_own hN.2.1).src
          have HN1 := Lib.hid (nodesC_one (ns := nsk) (qs := qs ++ t) (fun i n q a b => (own_slice' (hN.2.2 i n q a b)).elim fun a h => h.elim fun c h => ⟨a, _, c, h⟩))
          have HLN := Lib.hid (show (nodesC (nsk.zip (qs ++ t))).length = nsk.length * 7 by rw [nodesC_length, List.length_zip, hN.1, Nat.min_self])
          obtain ⟨n0, hn0⟩ : ∃ n0, n0 = wr.heap.size := ⟨_, rfl⟩
          clear h1 hN hI hbW hA hX hkv hnv ht hta hlk hbk hke hlt2
          go_wp2_with fail
          go_region_held3 (fun W => W.cell? ⟨w.heap.size + 1, 0, none⟩ = some (.int .i64 x.op) ∧ W.cell? ⟨w.heap.size + 1, 1, none⟩ = some (.slice ka ksk.length kc) ∧ W.cell? ⟨w.heap.size + 1, 2, none⟩ = some (.int .i64 x.rule) ∧ W.cell? ⟨w.heap.size + 1, 3, none⟩ = some (.int .u64 x.s0) ∧ W.cell? ⟨w.heap.size + 1, 4, none⟩ = some (.int .u64 x.s1) ∧ W.cell? ⟨w.heap.size + 1, 5, none⟩ = some (.int .u64 x.s2) ∧ W.cell? ⟨w.heap.size + 1, 6, none⟩ = some (.int .u64 x.s3) ∧ Below n0 wr W)
            (first | exact hS | (go_split_ands; refine oneS HX.out hn0 ?_; repeat (first | assumption | exact Below.refl _ _ | refine Below.drew ?_ | refine below_alloc' ?_ hn0 _)))
            (first
              | ((go_split_ands
                  rename Below n0 wr _ => hb'
                  refine step_append_empty (by rfl) _ _ 34 (by rfl) wr.heap.size 55 ie _ 7 72 Try.underlying34 hie hze0 hze1 hze2 (by rfl) (by decide) _ (by rfl) (by repeat (first | (refine Bl.new' ?_; simp; done) | refine Bl.drew ?_ | refine Bl.past ?_)) (by first | omega | simp) a1 nsk.length d1 _ (by rfl) HLN.out (src_kept HNC.out hn0 hb') HN1.out (by unfold maxLen; omega) (by omega) ?_
                  intro a2' c2' w2 hown hgrow
                  have hB2 := hb'.grown hgrow (by rw [hn0]; exact hb'.size) (fun g e => by have := Option.some.inj e; omega)
                  have hS := oneS HX.out hn0 hB2))
              | ((go_split_ands
                  rename Below n0 wr _ => hb'
                  refine step_append_own (by rfl) _ _ 34 (by rfl) wr.heap.size 55 ie _ 7 72 Try.underlying34 hie hze0 hze1 hze2 (by rfl) (by decide) _ nsk.length _ (by rfl) (by first | exact hown | exact ownsRow_grown hown (one_new _ _)) _ 1 1 (nodeC (x.node ksk, .slice ka ksk.length kc)) (by rfl) (by rfl) (by refine Bl.news (t := 55) ?_; first | (refine Bl.new' ?_; simp; done) | (refine Bl.drew (Bl.new' ?_); simp; done) | (refine Bl.grown' ?_ hgrow (by simp); repeat (first | (refine Bl.new' ?_; simp; done) | refine Bl.drew ?_ | refine Bl.past ?_))) (by simp [nodeC, Value.oneCell']) (by unfold maxLen; omega) (by omega) (by have := hb'.size; omega) ?_
                  intro a3' c3' w3 hown3 hgrow3 hat3
                  have hB3 := hb'.grown hgrow3 (by rw [hn0]; exact hb'.size) (fun g e => by rw [hn0]; exact (hown.lt g e).1)
                  have hS := oneS HX.out hn0 hB3)))
          all_goals
            rw [hn0] at hB3
            go_wp2
            go_ret3
            exact OneIs.yes HR.out HN.out HI.out HBW2.out hw0 HKV.out HT.out hB3 hown3
end
end Go.Proofs.Ytnebdnonkefloaa
