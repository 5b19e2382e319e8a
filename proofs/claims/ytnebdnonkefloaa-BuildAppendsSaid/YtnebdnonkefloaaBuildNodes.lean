/- single; the closure that takes nodes from items; appendNodes. -/
import Derived.Test.YtnebdnonkefloaaBuildOwn
import Derived.Deep.Cut
import Derived.Deep.LoopGhost
import Derived.Laws.EntriesVeiled
namespace Go.Proofs.Ytnebdnonkefloaa
section
open Go.RowKit
theorem singleL_stop {x : PI} {r : List PI} {o : Int} (h : o = 0 ∨ x.kids < 0 ∨ (r.length : Int) + 1 - o < x.kids) : singleL (x :: r) o = false := if_pos h
theorem singleL_step {x : PI} {r : List PI} {o : Int} (h : ¬ (o = 0 ∨ x.kids < 0 ∨ (r.length : Int) + 1 - o < x.kids)) : singleL (x :: r) o = singleL r (o + (x.kids - 1)) := if_neg h
set_option maxHeartbeats 2000000 in
set_option maxRecDepth 100000 in
theorem single_any (v : Value) (l : List PI) (w : World) (hI : ItemsAt w v l) (hl : l.length ≤ 2000000) :
    Calls Try.prog 28 #[v] w fun e w' => e = .returned (.bool (singleL l 1)) ∧ Below w.heap.size w w' := by
  obtain ⟨a, c, rfl⟩ := hI.slice
  have HI := Lib.hid hI
  clear hI
  go_enter Try.func28, Try.ntmps28
  go_wp2
  go_loopw [8, 3] (fun vi vo wr => ∃ (k : Nat) (o : Int), k ≤ l.length ∧ vi = .int .i64 k ∧ vo = .int .i64 o ∧ 0 ≤ o ∧ o ≤ (l.length : Int) + 1 - k ∧ singleL (l.drop k) o = singleL l 1 ∧ Below w.heap.size w wr) (fun vi _ _ => l.length - (intOf vi).toNat)
  case atStart => exact ⟨0, 1, Nat.zero_le _, rfl, rfl, by omega, by omega, rfl, Below.refl _ _⟩
  case round =>
    obtain ⟨k, o, hk, rfl, rfl, ho1, ho2, hs, hb⟩ := hrel
    have HS := Lib.hid hs
    have HB := Lib.hid hb
    have hsz := hb.size
    clear hs hb
    by_cases hlt : k < l.length
    · obtain ⟨x, hx⟩ : ∃ x, l[k]? = some x := ⟨_, List.getElem?_eq_getElem hlt⟩
      obtain ⟨b, off, rfl, c0, c1, c2, c3, c4, c5, c6⟩ := (HI.out.kept HB.out (Nat.le_refl _)).at hx
      have hd : l.drop k = x :: l.drop (k + 1) := by
        obtain ⟨h1, h2⟩ := List.getElem?_eq_some_iff.1 hx
        rw [List.drop_eq_getElem_cons h1, h2]
      rw [hd] at HS
      have hdl : ((l.drop (k + 1)).length : Int) = (l.length : Int) - k - 1 := by rw [List.length_drop]; omega
      have k1 : (k : Int) < (l.length : Int) := by omega
      have HN := Lib.hid (one_new wr (.cells #[.int .i64 x.op, .int .i64 x.kids, .int .i64 x.rule, .int .u64 x.s0, .int .u64 x.s1, .int .u64 x.s2, .int .u64 x.s3] 64))
      clear hx hd
      by_cases h0 : o = 0
      · subst h0
        have HR := Lib.hid (HS.out ▸ singleL_stop (r := l.drop (k + 1)) (x := x) (o := 0) (Or.inl rfl))
        clear hdl
        go_wp2
        go_ret
        exact ⟨ret_bool HR.out.symm, HB.out.trans (HN.out.mono hsz)⟩
      · have q0 : (o == 0) = false := ibeq_no h0
        by_cases h1 : x.kids < 0
        · have HR := Lib.hid (HS.out ▸ singleL_stop (r := l.drop (k + 1)) (x := x) (o := o) (Or.inr (Or.inl h1)))
          clear hdl
          go_wp2
          go_ret
          exact ⟨ret_bool HR.out.symm, HB.out.trans (HN.out.mono hsz)⟩
        · by_cases h2 : (l.length : Int) - k - o < x.kids
          · have HR := Lib.hid (HS.out ▸ singleL_stop (r := l.drop (k + 1)) (x := x) (o := o) (Or.inr (Or.inr (by omega))))
            clear hdl
            go_wp2
            go_ret
            exact ⟨ret_bool HR.out.symm, HB.out.trans (HN.out.mono hsz)⟩
          · have HR := Lib.hid (HS.out ▸ singleL_step (r := l.drop (k + 1)) (x := x) (o := o) (by omega))
            clear hdl
            go_wp2
            go_roundw
            case rel => exact ⟨k + 1, o + (x.kids - 1), by omega, by go_num, by go_num, by omega, by omega, HR.out.symm, HB.out.trans (HN.out.mono hsz)⟩
            case measure => simp [intOf]; omega
    · obtain rfl : k = l.length := by omega
      have k1 : ¬ (l.length : Int) < (l.length : Int) := by omega
      have HR : Hid (singleL l 1 = (o == 0)) := Lib.hid (by rw [← HS.out, List.drop_length]; rfl)
      go_wp2
      go_ret
      exact ⟨ret_bool HR.out.symm, HB.out⟩
end
section
open Go.RowKit
def tkF (IB XB TB NB : Nat) : Value := .func (.func 48) #[] #[.pointer (some ⟨IB, 0, none⟩), .pointer (some ⟨XB, 0, none⟩), .pointer (some ⟨TB, 0, none⟩), .pointer (some ⟨NB, 0, none⟩)]
/-- The state of the taking: the items, the index of the next one, the nodes that were made, with rows of their kids. -/
def TkS (w0 : World) (IB XB TB NB : Nat) (iv : Value) (nx : Nat) (ns : List PN) (qs : List Value) (w : World) : Prop :=
  Below w0.heap.size w0 w ∧ (w0.heap.size ≤ IB ∧ w0.heap.size ≤ XB ∧ w0.heap.size ≤ NB) ∧ Bl w IB 60 #[iv] ∧ Bl w XB 3 #[.int .i64 (nx : Int)] ∧ Bl w TB 90 #[tkF IB XB TB NB] ∧
  (∃ nv, Bl w NB 34 #[nv] ∧ NRow w0.heap.size nv ns qs w) ∧ ∀ q, q ∈ qs → q.ownBlock ≠ some XB
theorem Bl.ne {w : World} {b c : Nat} {t t' : TypeId} {x y : Array Value} (h : Bl w b t x) (k : Bl w c t' y) (ht : t ≠ t') : b ≠ c := by
  rintro rfl
  unfold Bl at h k
  rw [h] at k
  injection k with k
  injection k with _ k
  exact ht k
theorem NRow.set {base : Nat} {v : Value} {ns : List PN} {qs : List Value} {w : World} (h : NRow base v ns qs w) {b o : Nat} (hb : v.ownBlock ≠ some b) (hq : ∀ q, q ∈ qs → q.ownBlock ≠ some b) (u : Value) : NRow base v ns qs (w.setCell ⟨b, o, none⟩ u) :=
  ⟨h.1, ownsRow_setCell_other h.2.1 (a := ⟨b, o, none⟩) hb u, fun j n q a c => ownsRow_setCell_other (h.2.2 j n q a c) (a := ⟨b, o, none⟩) (hq q (List.mem_of_getElem? c)) u⟩
theorem own_ne {w : World} {base : Nat} {e t : TypeId} {size n b : Nat} {v : Value} {xs : List Value} {cs : Array Value} (h : w.ownsRow base e size v n xs) (hb : Bl w b t cs) (he : e ≠ t) : v.ownBlock ≠ some b := row_ne h ⟨_, _, hb⟩ he
theorem TkS.alloc {w0 : World} {IB XB TB NB : Nat} {iv : Value} {nx : Nat} {ns : List PN} {qs : List Value} {w w' : World} (h : TkS w0 IB XB TB NB iv nx ns qs w) (hb : Below w.heap.size w w') : TkS w0 IB XB TB NB iv nx ns qs w' := by
  obtain ⟨h1, h2, h3, h4, h5, ⟨nv, h6, h7⟩, h8⟩ := h
  exact ⟨h1.trans (hb.mono h1.size), h2, h3.below hb, h4.below hb, h5.below hb, ⟨nv, h6.below hb, h7.grown hb⟩, h8⟩
theorem TkS.next {w0 : World} {IB XB TB NB : Nat} {iv : Value} {nx : Nat} {ns : List PN} {qs : List Value} {w : World} (h : TkS w0 IB XB TB NB iv nx ns qs w) (nx' : Nat) : TkS w0 IB XB TB NB iv nx' ns qs (w.setCell ⟨XB, 0, none⟩ (.int .i64 (nx' : Int))) := by
  obtain ⟨h1, h2, h3, h4, h5, ⟨nv, h6, h7⟩, h8⟩ := h
  exact ⟨h1.setCell (p := ⟨XB, 0, none⟩) h2.2.1 _, h2, h3.other (h3.ne h4 (by decide)) _, h4.set _, h5.other (h5.ne h4 (by decide)) _, ⟨nv, h6.other (h6.ne h4 (by decide)) _, h7.set (own_ne h7.2.1 h4 (by decide)) h8 _⟩, h8⟩
theorem TkS.iv {w0 : World} {IB XB TB NB : Nat} {iv : Value} {nx : Nat} {ns : List PN} {qs : List Value} {w : World} (h : TkS w0 IB XB TB NB iv nx ns qs w) : Bl w IB 60 #[iv] := h.2.2.1
theorem TkS.xb {w0 : World} {IB XB TB NB : Nat} {iv : Value} {nx : Nat} {ns : List PN} {qs : List Value} {w : World} (h : TkS w0 IB XB TB NB iv nx ns qs w) : Bl w XB 3 #[.int .i64 (nx : Int)] := h.2.2.2.1
theorem TkS.tb {w0 : World} {IB XB TB NB : Nat} {iv : Value} {nx : Nat} {ns : List PN} {qs : List Value} {w : World} (h : TkS w0 IB XB TB NB iv nx ns qs w) : Bl w TB 90 #[tkF IB XB TB NB] := h.2.2.2.2.1
/-- A row of numbers grows: what the taking knows stays. -/
theorem TkS.ints {w0 : World} {IB XB TB NB : Nat} {iv : Value} {nx : Nat} {ns : List PN} {qs : List Value} {w w' : World} (h : TkS w0 IB XB TB NB iv nx ns qs w) {kv : Value} {base k : Nat} {xs : List Value}
    (hk : w.ownsRow base 3 1 kv k xs) (hbase : w0.heap.size ≤ base) (hx : kv.ownBlock ≠ some XB) (hq : ∀ q, q ∈ qs → ∀ g, q.ownBlock = some g → kv.ownBlock ≠ some g) (hg : w.grownBy w' kv.ownBlock) : TkS w0 IB XB TB NB iv nx ns qs w' := by
  obtain ⟨h1, h2, h3, h4, h5, ⟨nv, h6, h7⟩, h8⟩ := h
  have kind : ∀ g, kv.ownBlock = some g → ∃ c fz, w.heap[g]? = some (.cells c 3 fz) := fun g hv => Lib.ownsRow_kind hk g hv
  have kb : ∀ {b : Nat} {t : TypeId} {cs : Array Value}, Bl w b t cs → t ≠ 3 → Bl w' b t cs := fun hB ht => hB.grown hg (fun g e => by
    obtain ⟨c, fz, hc⟩ := kind g e
    exact ⟨c, _, fz, hc, ht⟩)
  have h4' : Bl w' XB 3 #[.int .i64 (nx : Int)] := by
    unfold Bl; rw [hg.block XB h4.lt (fun e => hx e.symm)]; exact h4
  refine ⟨h1.grown hg h1.size (fun g e => Nat.le_trans hbase (hk.lt g e).1), h2, kb h3 (by decide), h4', kb h5 (by decide), ⟨nv, kb h6 (by decide), h7.1, own_kept' h7.2.1 hg kind (by decide), fun j n q a b => ?_⟩, h8⟩
  have hr := h7.2.2 j n q a b
  refine hr.kept hg ?_
  cases hv : q.ownBlock with
  | none => exact .inl rfl
  | some g => exact .inr (fun e => hq q (List.mem_of_getElem? b) g hv e.symm)
/-- A node is appended to the nodes. -/
theorem TkS.node {w0 : World} {IB XB TB NB : Nat} {iv : Value} {nx : Nat} {ns : List PN} {qs : List Value} {w w' : World} {nv nv' kv : Value} {n : PN} (h : TkS w0 IB XB TB NB iv nx ns qs w)
    (hn : Bl w NB 34 #[nv]) (hr : NRow w0.heap.size nv ns qs w) (hk : w.ownsRow w0.heap.size 3 1 kv n.kids.length (intsV n.kids)) (hx : kv.ownBlock ≠ some XB)
    (hown : w'.ownsRow w0.heap.size 55 7 nv' (ns.length + 1) (nodesC (ns.zip qs) ++ nodeC (n, kv))) (hg : w.grownBy w' nv.ownBlock) :
    TkS w0 IB XB TB NB iv nx (ns ++ [n]) (qs ++ [kv]) (w'.setCell ⟨NB, 0, none⟩ nv') := by
  obtain ⟨h1, h2, h3, h4, h5, -, h8⟩ := h
  have kind : ∀ g, nv.ownBlock = some g → ∃ c fz, w.heap[g]? = some (.cells c 55 fz) := fun g hv => Lib.ownsRow_kind hr.2.1 g hv
  have kb : ∀ {b : Nat} {t : TypeId} {cs : Array Value}, Bl w b t cs → t ≠ 55 → Bl w' b t cs := fun hB ht => hB.grown hg (fun g e => by
    obtain ⟨c, fz, hc⟩ := kind g e
    exact ⟨c, _, fz, hc, ht⟩)
  have k3 := kb h3 (by decide)
  have k4 := kb h4 (by decide)
  have k5 := kb h5 (by decide)
  have k6 := kb hn (by decide)
  refine ⟨(h1.grown hg h1.size (fun g e => (hr.2.1.lt g e).1)).setCell (p := ⟨NB, 0, none⟩) h2.2.2 _, h2, k3.other (k3.ne k6 (by decide)) _, k4.other (k4.ne k6 (by decide)) _, k5.other (k5.ne k6 (by decide)) _, ⟨nv', k6.set _, ?_, ?_, fun j m q a b => ?_⟩, fun q hq => ?_⟩
  · rw [List.length_append, List.length_append, hr.1]; rfl
  · have := ownsRow_setCell_other hown (a := ⟨NB, 0, none⟩) (own_ne hown k6 (by decide)) nv'
    rw [List.zip_append hr.1.symm]
    unfold nodesC at this ⊢
    rw [List.flatMap_append, List.length_append]
    simpa using this
  · have key : ∀ {u : Value} {k : Nat} {xs : List Value}, w.ownsRow w0.heap.size 3 1 u k xs → (w'.setCell ⟨NB, 0, none⟩ nv').ownsRow w0.heap.size 3 1 u k xs := fun hu => by
      have a2 := own_kept' hu hg kind (by decide)
      exact ownsRow_setCell_other a2 (a := ⟨NB, 0, none⟩) (own_ne a2 k6 (by decide)) _
    rcases Nat.lt_or_ge j ns.length with hj | hj
    · rw [List.getElem?_append_left hj] at a
      rw [List.getElem?_append_left (by rw [hr.1]; exact hj)] at b
      exact key (hr.2.2 j m q a b)
    · have hje : j = ns.length := by
        have := (List.getElem?_eq_some_iff.1 a).1
        simp at this; omega
      subst hje
      rw [List.getElem?_append_right (Nat.le_refl _), Nat.sub_self] at a
      rw [List.getElem?_append_right (by rw [hr.1]; exact Nat.le_refl _), hr.1, Nat.sub_self] at b
      obtain rfl := Option.some.inj a
      obtain rfl := Option.some.inj b
      exact key hk
  · rcases List.mem_append.1 hq with hq | hq
    · exact h8 q hq
    · obtain rfl := List.mem_singleton.1 hq
      exact hx
/-- What the closure returns. -/
def TkIs (w0 : World) (IB XB TB NB : Nat) (iv : Value) (nx : Nat) (ns : List PN) (qs : List Value) (w : World) (e : Ending) (w' : World) : Prop :=
  e = .returned (.int .i64 ((ns.length : Int) - 1)) ∧ ∃ t, TkS w0 IB XB TB NB iv nx ns (qs ++ t) w' ∧ Kp w0.heap.size XB NB 55 w w' ∧ ∀ q, q ∈ t → ∀ g, q.ownBlock = some g → w.heap.size ≤ g
/-- The state of the closure's loop. -/
def TkL (w0 : World) (IB XB TB NB : Nat) (iv : Value) (its : List PI) (n1 : List PN) (l1 : List PI) (ks : List Int) (x : PI) (qs : List Value) (w : World) (f k : Nat) (kv : Value) (wr : World) : Prop :=
  ∃ (nx : Nat) (ns : List PN) (t : List Value) (ksk : List Int), kidsF oneL (x.kids.toNat - k) ns (its.drop nx) ksk = some (n1, l1, ks) ∧ its.length - nx < f ∧ nx ≤ its.length ∧ ns.length + (its.length - nx) ≤ 1000000 ∧ ksk.length = k ∧ TkS w0 IB XB TB NB iv nx ns (qs ++ t) wr ∧
    Kp w0.heap.size XB NB 55 w wr ∧ w.heap.size < wr.heap.size ∧ Bl wr w.heap.size 64 #[.int .i64 x.op, .int .i64 x.kids, .int .i64 x.rule, .int .u64 x.s0, .int .u64 x.s1, .int .u64 x.s2, .int .u64 x.s3] ∧
    wr.ownsRow w.heap.size 3 1 kv k (intsV ksk) ∧ (∀ q, q ∈ t → ∀ g, q.ownBlock = some g → w.heap.size ≤ g) ∧ ∀ q, q ∈ t → ∀ g, q.ownBlock = some g → kv.ownBlock ≠ some g
theorem TkS.lt {w0 : World} {IB XB TB NB : Nat} {iv : Value} {nx : Nat} {ns : List PN} {qs : List Value} {w : World} (h : TkS w0 IB XB TB NB iv nx ns qs w) : ∀ q, q ∈ qs → ∀ g, q.ownBlock = some g → g < w.heap.size := fun q hq g hg => by
  obtain ⟨-, -, -, -, -, ⟨nv, -, h7⟩, -⟩ := h
  obtain ⟨j, hj⟩ := List.getElem?_of_mem hq
  have hl := (List.getElem?_eq_some_iff.1 hj).1
  obtain ⟨n, hn⟩ : ∃ n, ns[j]? = some n := ⟨_, List.getElem?_eq_getElem (by rw [← h7.1]; exact hl)⟩
  exact ((h7.2.2 j n q hn hj).lt g hg).2
theorem TkL.step {w0 w wr w2 w5 : World} {IB XB TB NB : Nat} {iv : Value} {its : List PI} {n1 ns' : List PN} {l1 : List PI} {ks ksk : List Int} {z : Int} {x : PI} {qs t t' : List Value} {f k nx' : Nat} {kv v' : Value} {o2 : Obj}
    (h1 : kidsF oneL (x.kids.toNat - (k + 1)) ns' (its.drop nx') (ksk ++ [z]) = some (n1, l1, ks)) (hff : its.length - nx' < f) (hnx : nx' ≤ its.length) (hbd : ns'.length + (its.length - nx') ≤ 1000000) (hk : ksk.length = k) (hXB : XB < w.heap.size) (hNB : NB < w.heap.size) (hw0 : w0.heap.size ≤ w.heap.size)
    (hS : TkS w0 IB XB TB NB iv nx' ns' (qs ++ t ++ t') w2) (hKw : Kp w0.heap.size XB NB 55 w wr) (hK : Kp w0.heap.size XB NB 55 wr w2) (hwr : w.heap.size < wr.heap.size)
    (hB : Bl wr w.heap.size 64 #[.int .i64 x.op, .int .i64 x.kids, .int .i64 x.rule, .int .u64 x.s0, .int .u64 x.s1, .int .u64 x.s2, .int .u64 x.s3]) (hkv : wr.ownsRow w.heap.size 3 1 kv k (intsV ksk))
    (hqs : ∀ q, q ∈ qs → ∀ g, q.ownBlock = some g → g < w.heap.size) (ht : ∀ q, q ∈ t → ∀ g, q.ownBlock = some g → w.heap.size ≤ g) (hta : ∀ q, q ∈ t → ∀ g, q.ownBlock = some g → kv.ownBlock ≠ some g) (ht' : ∀ q, q ∈ t' → ∀ g, q.ownBlock = some g → wr.heap.size ≤ g)
    (hown : w5.ownsRow w.heap.size 3 1 v' (k + 1) (intsV ksk ++ [.int .i64 z])) (hg : (w2.alloc o2).grownBy w5 kv.ownBlock) (hat : v'.ownBlock = kv.ownBlock ∨ v'.ownBlock = some (w2.alloc o2).heap.size) :
    TkL w0 IB XB TB NB iv its n1 l1 ks x qs w f (k + 1) v' w5 := by
  have hxk : kv.ownBlock ≠ some XB := fun e => by have := (hkv.lt XB e).1; omega
  have hkv2 := hK.own hkv (by decide) hxk (fun e => by have := (hkv.lt NB e).1; omega)
  have hb3 := one_new w2 o2
  have hkv3 := ownsRow_grown hkv2 hb3
  have hap : ∀ q, q ∈ qs ++ t ++ t' → ∀ g, q.ownBlock = some g → kv.ownBlock ≠ some g := fun q hq g hgq e => by
    have hl := hkv.lt g e
    rcases List.mem_append.1 hq with hq | hq
    · rcases List.mem_append.1 hq with hq | hq
      · have := hqs q hq g hgq; omega
      · exact hta q hq g hgq e
    · have := ht' q hq g hgq; omega
  have hS5 := (hS.alloc hb3).ints hkv3 hw0 hxk hap hg
  have hlt := hS.lt
  refine ⟨nx', ns', t ++ t', ksk ++ [z], h1, hff, hnx, hbd, by rw [List.length_append, hk]; rfl, by rw [← List.append_assoc]; exact hS5, (hKw.trans (hK.trans (Kp.of_below hb3))).late hg (fun g e => (hkv.lt g e).1), ?_, ?_, ?_, fun q hq g hgq => ?_, fun q hq g hgq e => ?_⟩
  · exact Nat.lt_of_lt_of_le hwr (Nat.le_trans hK.size (Nat.le_trans hb3.size hg.size))
  · exact ((hK.bl hB (by omega) (by omega) (by decide)).below hb3).grown hg (fun g e => by
      obtain ⟨c, fz, hc⟩ := Lib.ownsRow_kind hkv3 g e
      exact ⟨c, _, fz, hc, by decide⟩)
  · unfold intsV at hown ⊢
    rw [List.map_append]; exact hown
  · rcases List.mem_append.1 hq with hq | hq
    · exact ht q hq g hgq
    · have := ht' q hq g hgq; omega
  · have hm : q ∈ qs ++ t ++ t' := by rw [List.append_assoc]; exact List.mem_append_right _ hq
    rcases hat with h | h
    · rw [h] at e; exact hap q hm g hgq e
    · rw [h] at e
      injection e with e
      have := hlt q hm g hgq
      simp at e; omega
theorem drop_tail {its d l2 : List PI} {nx : Nat} (h : its.drop nx = d ++ l2) (hd : 0 < d.length) : its.drop (its.length - l2.length) = l2 ∧ nx < its.length - l2.length ∧ l2.length ≤ its.length := by
  have hl := congrArg List.length h
  rw [List.length_drop, List.length_append] at hl
  refine ⟨?_, by omega, by omega⟩
  have : its.length - l2.length = nx + d.length := by omega
  rw [this, ← List.drop_drop, h, List.drop_left]
/-- The closure has taken all kids: a node more. -/
theorem TkIs.mk {w0 w wr w5 : World} {IB XB TB NB nx : Nat} {iv : Value} {ns : List PN} {qs t : List Value} {x : PI} {ks : List Int} {kv nv v' : Value} {o2 : Obj} {z : Int}
    (hS : TkS w0 IB XB TB NB iv nx ns (qs ++ t) wr) (hn : Bl wr NB 34 #[nv]) (hr : NRow w0.heap.size nv ns (qs ++ t) wr) (hKw : Kp w0.heap.size XB NB 55 w wr) (hXB : XB < w.heap.size) (hw0 : w0.heap.size ≤ w.heap.size)
    (hkv : wr.ownsRow w.heap.size 3 1 kv ks.length (intsV ks)) (ht : ∀ q, q ∈ t → ∀ g, q.ownBlock = some g → w.heap.size ≤ g)
    (hown : w5.ownsRow w0.heap.size 55 7 v' (ns.length + 1) (nodesC (ns.zip (qs ++ t)) ++ nodeC (x.node ks, kv))) (hg : (wr.alloc o2).grownBy w5 nv.ownBlock) (hz : z = ((ns ++ [x.node ks]).length : Int) - 1) :
    TkIs w0 IB XB TB NB iv nx (ns ++ [x.node ks]) qs w (.returned (.int .i64 z)) (w5.setCell ⟨NB, 0, none⟩ v') := by
  have hb := one_new wr o2
  have hxk : kv.ownBlock ≠ some XB := fun e => by have := (hkv.lt XB e).1; omega
  have hk2 : (wr.alloc o2).ownsRow w0.heap.size 3 1 kv (x.node ks).kids.length (intsV (x.node ks).kids) := own_mono (ownsRow_grown hkv hb) hw0
  have hr2 := hr.grown hb
  have kind : ∀ g, nv.ownBlock = some g → w0.heap.size ≤ g ∧ ∃ c fz, (wr.alloc o2).heap[g]? = some (.cells c 55 fz) := fun g hv => by
    obtain ⟨c, fz, hc⟩ := Lib.ownsRow_kind hr2.2.1 g hv
    exact ⟨(hr2.2.1.lt g hv).1, c, fz, hc⟩
  have hn5 : Bl w5 NB 34 #[nv] := (hn.below hb).grown hg (fun g e => by
    obtain ⟨c, fz, hc⟩ := Lib.ownsRow_kind hr2.2.1 g e
    exact ⟨c, _, fz, hc, by decide⟩)
  refine ⟨by rw [hz], t ++ [kv], ?_, ?_, fun q hq g hgq => ?_⟩
  · rw [← List.append_assoc]
    exact (hS.alloc hb).node (hn.below hb) hr2 hk2 hxk hown hg
  · exact (hKw.trans ((Kp.of_below hb).trans (Kp.grown hg kind))).trans (Kp.set hn5 (.inr (.inl rfl)) _)
  · rcases List.mem_append.1 hq with hq | hq
    · exact ht q hq g hgq
    · obtain rfl := List.mem_singleton.1 hq
      exact (hkv.lt g hgq).1
end
section
open Go.RowKit
set_option maxHeartbeats 8000000 in
set_option maxRecDepth 100000 in
theorem take_any (w0 : World) (IB XB TB NB : Nat) (iv : Value) (its : List PI) (hI : ItemsAt w0 iv its) (hl : its.length ≤ 1000000) : ∀ (f nx : Nat) (ns : List PN) (qs : List Value) (w : World) (ns' : List PN) (l' : List PI),
    its.length - nx < f → nx ≤ its.length → ns.length + (its.length - nx) ≤ 1000000 → TkS w0 IB XB TB NB iv nx ns qs w → oneL ns (its.drop nx) = some (ns', l') →
    Calls Try.prog 48 #[.pointer (some ⟨IB, 0, none⟩), .pointer (some ⟨XB, 0, none⟩), .pointer (some ⟨TB, 0, none⟩), .pointer (some ⟨NB, 0, none⟩)] w (TkIs w0 IB XB TB NB iv (its.length - l'.length) ns' qs w)
  | 0, nx, ns, qs, w, ns', l', hf, _, _, _, _ => by omega
  | f + 1, nx, ns, qs, w, ns', l', hf, hnx, hbd, hS, ho => by
    have IH := Lib.hid (take_any w0 IB XB TB NB iv its hI hl f)
    obtain ⟨x, r, n1, ks, hd, h0, hk, rfl⟩ := oneL_inv ho
    have hlt : nx < its.length := by
      rcases Nat.lt_or_ge nx its.length with h | h
      · exact h
      · rw [List.drop_eq_nil_of_le h] at hd; cases hd
    have hd2 : its.drop nx = its[nx] :: its.drop (nx + 1) := List.drop_eq_getElem_cons hlt
    have hx : its[nx]? = some x := by
      rw [List.getElem?_eq_getElem hlt]
      rw [hd2] at hd
      injection hd with e _
      rw [e]
    obtain rfl : its.drop (nx + 1) = r := by rw [hd2] at hd; injection hd
    have hS1 := Lib.hid hS.iv
    obtain ⟨ia, ic, rfl⟩ := hI.slice
    obtain ⟨ib, io, rfl, c0, c1, c2, c3, c4, c5, c6⟩ := (hI.kept hS.1 (Nat.le_refl _)).at hx
    have i0 := hS.iv.cell (o := 0) rfl
    have x0 := hS.xb.cell (o := 0) rfl
    have xf := hS.xb.free 0
    have xl := hS.xb.lt
    have nl : NB < w.heap.size := by obtain ⟨-, -, -, -, -, ⟨nv, h6, -⟩, -⟩ := hS; exact h6.lt
    have il := hS.iv.lt
    have k1 : (nx : Int) < (its.length : Int) := by omega
    have hnxb : (nx : Int) ≤ 1000000 := by omega
    have hlc := Lib.hid (kidsL_cut hk)
    have hw0 := hS.1.size
    have hqs := Lib.hid hS.lt
    have HSt := Lib.hid ((hS.next (nx + 1)).alloc (one_new _ (.cells #[.int .i64 x.op, .int .i64 x.kids, .int .i64 x.rule, .int .u64 x.s0, .int .u64 x.s1, .int .u64 x.s2, .int .u64 x.s3] 64)))
    have HK := Lib.hid hk
    have HX := Lib.hid hS.xb
    clear hS hd hd2 hx ho hk hS1
    go_enter Try.func48, Try.ntmps48
    go_wp2
    obtain ⟨W1, hW1⟩ : ∃ W1, (w.setCell ⟨XB, 0, none⟩ (.int .i64 ((nx : Int) + 1))).alloc (.cells #[.int .i64 x.op, .int .i64 x.kids, .int .i64 x.rule, .int .u64 x.s0, .int .u64 x.s1, .int .u64 x.s2, .int .u64 x.s3] 64) = W1 := ⟨_, rfl⟩
    have hS1 : TkS w0 IB XB TB NB (.slice (some ⟨ib, io, none⟩) its.length ic) (nx + 1) ns qs W1 := by rw [← hW1]; exact HSt.out
    have hK1 : Kp w0.heap.size XB NB 55 w W1 := by
      rw [← hW1]
      exact (Kp.set HX.out (.inl rfl) _).trans (Kp.of_below (one_new _ _))
    have hB1 : Bl W1 w.heap.size 64 #[.int .i64 x.op, .int .i64 x.kids, .int .i64 x.rule, .int .u64 x.s0, .int .u64 x.s1, .int .u64 x.s2, .int .u64 x.s3] := by
      rw [← hW1]
      have := Bl.new (w.setCell ⟨XB, 0, none⟩ (.int .i64 ((nx : Int) + 1))) 64 #[.int .i64 x.op, .int .i64 x.kids, .int .i64 x.rule, .int .u64 x.s0, .int .u64 x.s1, .int .u64 x.s2, .int .u64 x.s3]
      simpa using this
    have hz1 : w.heap.size < W1.heap.size := hB1.lt
    rw [hW1]
    clear hW1 i0 x0 xf c0 c1 c2 c3 c4 c5 c6
    go_loopw [15, 6] (fun vc vk wr => ∃ k : Nat, k ≤ x.kids.toNat ∧ vc = .int .i64 k ∧ TkL w0 IB XB TB NB (.slice (some ⟨ib, io, none⟩) its.length ic) its n1 l' ks x qs w f k vk wr) (fun vc _ _ => x.kids.toNat - (intOf vc).toNat)
    case atStart => exact ⟨0, Nat.zero_le _, rfl, nx + 1, ns, [], [], HK.out, by omega, by omega, by omega, rfl, by rw [List.append_nil]; exact hS1, hK1, hz1, hB1, World.ownsRow_nil _ _ _ _, fun q h => (nomatch h), fun q h => (nomatch h)⟩
    case round =>
      obtain ⟨k, hk, rfl, hL⟩ := hrel
      clear hS1 hK1 hB1 HSt HK
      obtain ⟨nx', ns', t, ksk, h1, hff, hn2, hb2, hkl, hS, hKw, hwr, hB, hkv, ht, hta⟩ := hL
      obtain ⟨ka, kc, rfl⟩ := own_slice' hkv
      have b1 := hB.cell (o := 1) rfl
      by_cases hlt2 : k < x.kids.toNat
      · obtain ⟨n2, l2, ho2, h2⟩ := kidsF_inv (show kidsF oneL ((x.kids.toNat - (k + 1)) + 1) ns' (its.drop nx') ksk = some _ by rw [show x.kids.toNat - (k + 1) + 1 = x.kids.toNat - k by omega]; exact h1)
        obtain ⟨d, m, hd1, hm1, hm2, hm3⟩ := oneL_cut ho2
        obtain ⟨hd2, hd3, hd4⟩ := drop_tail hd1 hm3
        have hC := Lib.hid (IH.out nx' ns' (qs ++ t) wr n2 l2 hff hn2 hb2 hS ho2)
        unfold TkIs at hC
        have hnl : n2.length + (its.length - (its.length - l2.length)) ≤ 1000000 := by
          have := congrArg List.length hd1
          rw [List.length_drop, List.length_append] at this
          rw [hm1, List.length_append]; omega
        have hkb := hlc.out
        have tb := hS.tb.cell (o := 0) rfl
        unfold tkF at tb
        obtain ⟨ii, hii, hzi0, hzi1, hzi2⟩ := info_parts infoInt
        have k2 : (k : Int) < x.kids := by omega
        have hxb : ∀ g, (Value.slice ka k kc).ownBlock = some g → g ≠ XB := fun g e => by have := (hkv.lt g e).1; omega
        have HF := Lib.hid h2
        have HKW := Lib.hid hKw
        have HB := Lib.hid hB
        have HKV := Lib.hid hkv
        have HT := Lib.hid ht
        have HTA := Lib.hid hta
        have HXB := Lib.hid hxb
        have hkk : x.kids.toNat ≤ 1000000 := by
          obtain ⟨d0, m0, e0, -, -, e1, -⟩ := hkb
          have := congrArg List.length e0
          rw [List.length_drop, List.length_append] at this
          omega
        have hbase := hKw.size
        clear h1 hS hKw hB hkv ht hta ho2 h2 hkb hd1 hm1 hm2 hm3 hxb b1
        rw [← hd2] at HF
        go_wp2_with (first
          | (go_at_call 48; (with_reducible refine hC.out.mono ?_); rintro e w2 ⟨rfl, t', hS2, hK2, ht2⟩; have HS2 := Lib.hid hS2; have HK2 := Lib.hid hK2; have HT2 := Lib.hid ht2; have hkv2 := Lib.hid (hK2.own HKV.out (by decide) (fun e => HXB.out _ e rfl) (fun e => by have := (HKV.out.lt NB e).1; omega)); have hsz2 := hK2.size; clear hS2 hK2 ht2)
          | (at_builtin; refine wpList_append_own_at _ rfl _ _ 53 rfl w.heap.size 3 ii (.int .i64 0) 1 8 Try.underlying53 hii hzi0 hzi1 hzi2 rfl (by decide) _ k _ rfl (ownsRow_grown hkv2.out (one_new _ _)) ⟨w2.heap.size, 0, none⟩ 1 1 [.int .i64 ((n2.length : Int) - 1)] rfl rfl (cell_one_new _ _ _) (by simp [Value.oneCell']) (by unfold maxLen; omega) (by omega) (by simp; omega) ?_; intro v5 w5 hown' hgrow _ hat; have HO := Lib.hid hown'; have HG := Lib.hid hgrow; have HAT := Lib.hid hat; clear hown' hgrow hat))
        go_roundw
        case rel => exact ⟨k + 1, by omega, by go_num, TkL.step HF.out (by omega) (by omega) hnl hkl xl nl hw0 HS2.out HKW.out HK2.out hwr HB.out HKV.out hqs.out HT.out HTA.out HT2.out HO.out HG.out HAT.out⟩
        case measure => simp [intOf]; omega
      · have hke : x.kids.toNat - k = 0 := by omega
        rw [hke, kidsF_zero] at h1
        injection h1 with h1
        injection h1 with h1 h2
        injection h2 with h2 h3
        subst h1 h3
        have k2 : ¬ (k : Int) < x.kids := by omega
        obtain ⟨nv, hn, hr⟩ := hS.2.2.2.2.2.1
        obtain ⟨na, nc, rfl⟩ := own_slice' hr.2.1
        obtain ⟨ie, hie, hze0, hze1, hze2⟩ := info_parts infoNode
        have y0 : wr.cell? ⟨w.heap.size, 0, none⟩ = some (.int .i64 x.op) := hB.cell rfl
        have y2 : wr.cell? ⟨w.heap.size, 2, none⟩ = some (.int .i64 x.rule) := hB.cell rfl
        have y3 : wr.cell? ⟨w.heap.size, 3, none⟩ = some (.int .u64 x.s0) := hB.cell rfl
        have y4 : wr.cell? ⟨w.heap.size, 4, none⟩ = some (.int .u64 x.s1) := hB.cell rfl
        have y5 : wr.cell? ⟨w.heap.size, 5, none⟩ = some (.int .u64 x.s2) := hB.cell rfl
        have y6 : wr.cell? ⟨w.heap.size, 6, none⟩ = some (.int .u64 x.s3) := hB.cell rfl
        have z0 : wr.cell? ⟨NB, 0, none⟩ = some (.slice na ns'.length nc) := hn.cell rfl
        have hlx : nx' = its.length - l'.length := by rw [← h2, List.length_drop]; omega
        have hbase := hS.1.size
        rw [hlx] at hS
        have HS := Lib.hid hS
        have HN := Lib.hid hn
        have HR := Lib.hid hr
        have HKW := Lib.hid hKw
        have HKV := Lib.hid hkv
        have HT := Lib.hid ht
        have hnl : NB < wr.heap.size := hn.lt
        clear hS hn hr hKw hkv ht hta hB b1 h2 hlx hke HX hlc
        subst hkl
        go_wp2_with (at_builtin; go_loud (refine wpList_append_own_at _ rfl _ _ 34 rfl w0.heap.size 55 ie (.agg #[.int .i64 0, .slice none 0 0, .int .i64 0, .int .u64 0, .int .u64 0, .int .u64 0, .int .u64 0]) 7 72 Try.underlying34 hie hze0 hze1 hze2 rfl (by decide) _ ns'.length _ rfl (ownsRow_grown HR.out.2.1 (one_new wr _)) ⟨wr.heap.size, 0, none⟩ 1 1 (nodeC (x.node ksk, .slice ka ksk.length kc)) rfl rfl (cell_row_one wr _ _) (by simp [nodeC, Value.oneCell']) (by unfold maxLen; omega) (by omega) (by simp; omega) ?_; intro v5 w5 hown' hgrow _ hat; obtain ⟨va5, vc5, rfl⟩ := own_slice' hown'; have hn5 := (HN.out.below (one_new wr _)).grown hgrow (fun g e => by obtain ⟨c, fz, hc⟩ := Lib.ownsRow_kind (ownsRow_grown HR.out.2.1 (one_new wr _)) g e; exact ⟨c, _, fz, hc, by decide⟩); have g0 : w5.cell? ⟨NB, 0, none⟩ = some (.slice na ns'.length nc) := hn5.cell rfl; have g1 := hn5.free 0; have HO := Lib.hid hown'; have HG := Lib.hid hgrow; clear hown' hgrow hat hn5))
        go_ret
        exact TkIs.mk HS.out HN.out HR.out HKW.out xl hw0 HKV.out HT.out HO.out HG.out (by rw [List.length_append]; simp)
end
section
open Go.RowKit
def NodesIs (w0 : World) (ns' : List PN) (qs : List Value) (w : World) (e : Ending) (w' : World) : Prop :=
  ∃ nv t, e = .returned nv ∧ NRow w0.heap.size nv ns' (qs ++ t) w' ∧ Below w0.heap.size w0 w' ∧ ∀ xb yb, Kp w0.heap.size xb yb 55 w w'
theorem NodesIs.mk {w0 w w4 w' : World} {IB XB TB NB nx : Nat} {iv : Value} {ns' : List PN} {qs t : List Value} {nv : Value} (hb : Below w.heap.size w w4) (hx : w.heap.size ≤ XB) (hy : w.heap.size ≤ NB) (hS : TkS w0 IB XB TB NB iv nx ns' (qs ++ t) w') (hn : Bl w' NB 34 #[nv])
    (hK : Kp w0.heap.size XB NB 55 w4 w') : NodesIs w0 ns' qs w (.returned nv) w' := by
  obtain ⟨nv', hn', hr⟩ := hS.2.2.2.2.2.1
  have : nv' = nv := by
    unfold Bl at hn hn'
    rw [hn] at hn'
    injection hn' with h
    injection h with h _ _
    injection h with h
    injection h with h _
    exact h.symm
  subst this
  exact ⟨nv', t, rfl, hr, hS.1, fun xb yb => ((Kp.of_below hb).trans hK).fresh hx hy xb yb⟩
set_option maxHeartbeats 4000000 in
set_option maxRecDepth 100000 in
theorem nodes_any (w0 : World) (nv iv : Value) (ns : List PN) (qs : List Value) (its : List PI) (w : World) (ns' : List PN) (hI : ItemsAt w0 iv its) (hl : its.length ≤ 1000000) (hbd : ns.length + its.length ≤ 1000000) (hb : Below w0.heap.size w0 w)
    (hr : NRow w0.heap.size nv ns qs w) (ho : oneL ns its = some (ns', [])) : Calls Try.prog 31 #[nv, iv] w (NodesIs w0 ns' qs w) := by
  obtain ⟨na, nc, rfl⟩ := own_slice' hr.2.1
  obtain ⟨ia, ic, rfl⟩ := hI.slice
  have HB := Lib.hid hb
  have HR := Lib.hid hr
  have HO := Lib.hid ho
  have hmf : ∀ (fn : Fn) (first cap : Array Value) (w : World), (Instr.makeFunc fn first cap).run Try.prog w = .ok (.func fn first cap) w := fun _ _ _ _ => rfl
  obtain ⟨W, hW⟩ : ∃ W, ((((w.alloc (.cells #[.slice na ns.length nc] 34)).alloc (.cells #[.slice ia its.length ic] 60)).alloc (.cells #[.int .i64 0] 3)).alloc (.cells #[tkF (w.heap.size + 1) (w.heap.size + 1 + 1) (w.heap.size + 1 + 1 + 1) w.heap.size] 90)) = W := ⟨_, rfl⟩
  have hb4 : Below w.heap.size w W := by
    rw [← hW]
    exact ((two_new w _ _).alloc (by simp; omega) _).alloc (by simp; omega) _
  have b0 : Bl W w.heap.size 34 #[.slice na ns.length nc] := by
    rw [← hW]
    exact (((Bl.new w _ _).below (one_new _ _)).below (one_new _ _)).below (one_new _ _)
  have b1 : Bl W (w.heap.size + 1) 60 #[.slice ia its.length ic] := by
    rw [← hW]
    have := ((Bl.new (w.alloc (.cells #[.slice na ns.length nc] 34)) 60 #[.slice ia its.length ic]).below (one_new _ (.cells #[.int .i64 0] 3))).below (one_new _ (.cells #[tkF (w.heap.size + 1) (w.heap.size + 1 + 1) (w.heap.size + 1 + 1 + 1) w.heap.size] 90))
    simpa using this
  have b2 : Bl W (w.heap.size + 1 + 1) 3 #[.int .i64 ((0 : Nat) : Int)] := by
    rw [← hW]
    have := (Bl.new ((w.alloc (.cells #[.slice na ns.length nc] 34)).alloc (.cells #[.slice ia its.length ic] 60)) 3 #[.int .i64 0]).below (one_new _ (.cells #[tkF (w.heap.size + 1) (w.heap.size + 1 + 1) (w.heap.size + 1 + 1 + 1) w.heap.size] 90))
    simpa using this
  have b3 : Bl W (w.heap.size + 1 + 1 + 1) 90 #[tkF (w.heap.size + 1) (w.heap.size + 1 + 1) (w.heap.size + 1 + 1 + 1) w.heap.size] := by
    rw [← hW]
    have := Bl.new (((w.alloc (.cells #[.slice na ns.length nc] 34)).alloc (.cells #[.slice ia its.length ic] 60)).alloc (.cells #[.int .i64 0] 3)) 90 #[tkF (w.heap.size + 1) (w.heap.size + 1 + 1) (w.heap.size + 1 + 1 + 1) w.heap.size]
    simpa using this
  have hs0 := hb.size
  have hSt : TkS w0 (w.heap.size + 1) (w.heap.size + 1 + 1) (w.heap.size + 1 + 1 + 1) w.heap.size (.slice ia its.length ic) 0 ns qs W :=
    ⟨hb.trans (hb4.mono hs0), ⟨by omega, by omega, hs0⟩, b1, b2, b3, ⟨_, b0, hr.grown hb4⟩, fun q hq => by
      obtain ⟨j, hj⟩ := List.getElem?_of_mem hq
      have hjl := (List.getElem?_eq_some_iff.1 hj).1
      obtain ⟨n, hn⟩ : ∃ n, ns[j]? = some n := ⟨_, List.getElem?_eq_getElem (by rw [← hr.1]; exact hjl)⟩
      exact own_block_lt (hr.2.2 j n q hn hj) (by omega)⟩
  have hC := Lib.hid (take_any w0 (w.heap.size + 1) (w.heap.size + 1 + 1) (w.heap.size + 1 + 1 + 1) w.heap.size (.slice ia its.length ic) its hI hl (its.length + 1) 0 ns qs W ns' [] (by omega) (by omega) (by omega) hSt ho)
  unfold TkIs at hC
  have HB4 := Lib.hid hb4
  have c3 := b3.cell (o := 0) rfl
  unfold tkF at c3 hW
  clear hb hr ho hb4 b0 b1 b2 b3 hSt
  go_enter Try.func31, Try.ntmps31
  go_wp2_with (go_at_call 48; (with_reducible refine hC.out.mono ?_); rintro e w2 ⟨rfl, t', hS2, hK2, ht2⟩; obtain ⟨nv2, hn2, hr2⟩ := hS2.2.2.2.2.2.1; obtain ⟨na2, nc2, rfl⟩ := own_slice' hr2.2.1; have g2 := hn2.cell (o := 0) rfl; have HS2 := Lib.hid hS2; have HK2 := Lib.hid hK2; have HN2 := Lib.hid hn2; clear hS2 hK2 ht2 hr2 hn2)
  go_ret
  exact NodesIs.mk HB4.out (by omega) (Nat.le_refl _) HS2.out HN2.out HK2.out
end
end Go.Proofs.Ytnebdnonkefloaa
