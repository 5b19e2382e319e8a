/- measure: Expression; the marks; Reach and its reference. -/
import Derived.Deep.Cut
import Derived.Test.YtocklhehfdilmaaPkB
import Derived.Test.YtocklhehfdilmaaPkSetRef3
import Derived.Test.YtocklhehfdilmaaPkGramFew
import Derived.Test.YtocklhehfdilmaaPkK
namespace Go.Proofs.Ytocklhehfdilmaa
section
open Go.RowKit
/-- A rule's nodes lie from behind the root before it to its own root. -/
theorem own_span {ns : List PN} : ∀ (rs : List PR) (b : Int), -1 ≤ b → ordR ns rs b = true → ∀ (r : Nat) (x : PR), rs[r]? = some x → (b ≤ exL ns x.root ∧ exL ns x.root < x.root ∧ x.root < ns.length) ∧ ∀ i, b < i → (ownL rs i = r ↔ exL ns x.root < i ∧ i ≤ x.root)
  | [], _, _, _, r, x, h => by simp at h
  | y :: t, b, hb, ho, 0, x, h => by
    obtain ⟨h1, h2, h3, h4⟩ := ordR_cons ho
    obtain rfl : y = x := by simpa using h
    refine ⟨⟨by omega, by omega, h2⟩, fun i hi => ?_⟩
    by_cases hy : y.root < i
    · rw [ownL_cons_yes hy]; omega
    · rw [ownL_cons_no hy]; omega
  | y :: t, b, hb, ho, r + 1, x, h => by
    obtain ⟨h1, h2, h3, h4⟩ := ordR_cons ho
    have hx : t[r]? = some x := by simpa using h
    obtain ⟨⟨g1, g2, g3⟩, g4⟩ := own_span t y.root (by omega) h4 r x hx
    refine ⟨⟨by omega, g2, g3⟩, fun i hi => ?_⟩
    by_cases hy : y.root < i
    · rw [ownL_cons_yes hy, ← g4 i hy]; omega
    · rw [ownL_cons_no hy]; omega
theorem NodesAt.part {w : World} {xa : Option Addr} {xc : Nat} {xs : List PN} (h : NodesAt w (.slice xa xs.length xc) xs) (f i : Nat) (hf : f ≤ i) (hi : i < xs.length) :
    ∃ b off, xa = some ⟨b, off, none⟩ ∧ NodesAt w (.slice (some ⟨b, off + f * 7, none⟩) (i + 1 - f) (xc - f)) ((xs.drop f).take (i + 1 - f)) := by
  obtain ⟨hl, a, c, he, hx⟩ := h
  injection he with h1 h2 h3
  subst h1
  rcases hx with h | ⟨b, off, e, hx⟩
  · rw [h] at hi; simp at hi
  · have hlen : ((xs.drop f).take (i + 1 - f)).length = i + 1 - f := by rw [List.length_take, List.length_drop]; omega
    refine ⟨b, off, e, by omega, some ⟨b, off + f * 7, none⟩, xc - f, by rw [hlen], .inr ⟨b, off + f * 7, rfl, fun j n hn => ?_⟩⟩
    have hj : j < i + 1 - f := by have := (List.getElem?_eq_some_iff.1 hn).1; omega
    rw [List.getElem?_take_of_lt hj, List.getElem?_drop] at hn
    have := hx (f + j) n hn
    rw [show off + f * 7 + j * 7 = off + (f + j) * 7 by omega]
    exact this
end
section
open Go.RowKit
def BolAt (m : Nat → Bool) (n B : Nat) (w : World) : Prop := ∃ cs, Bl w B 4 cs ∧ ∀ j, j < n → cs[j]? = some (.bool (m j))
theorem Bl.ne {w : World} {b c : Nat} {t u : TypeId} {xs ys : Array Value} (h : Bl w b t xs) (k : Bl w c u ys) (hn : t ≠ u) : b ≠ c := by
  rintro rfl
  unfold Bl at h k
  rw [h] at k
  injection k with k
  injection k with _ k _
  exact hn k
theorem BolAt.below {m : Nat → Bool} {n B : Nat} {w w' : World} (h : BolAt m n B w) (hb : Below w.heap.size w w') : BolAt m n B w' := by
  obtain ⟨cs, h1, h2⟩ := h; exact ⟨cs, h1.below hb, h2⟩
theorem BolAt.cell {m : Nat → Bool} {n B j : Nat} {w : World} (h : BolAt m n B w) (hj : j < n) : w.cell? ⟨B, j, none⟩ = some (.bool (m j)) := by
  obtain ⟨cs, h1, h2⟩ := h; exact h1.cell (h2 j hj)
theorem BolAt.free {m : Nat → Bool} {n B : Nat} {w : World} (h : BolAt m n B w) (o : Nat) : w.frozen? ⟨B, o, none⟩ = false := by
  obtain ⟨cs, h1, h2⟩ := h; exact h1.free o
theorem BolAt.put {m : Nat → Bool} {n B k : Nat} {w : World} (h : BolAt m n B w) (hk : k < n) : BolAt (ins m k) n B (w.setCell ⟨B, k, none⟩ (.bool true)) := by
  obtain ⟨cs, h1, h2⟩ := h
  refine ⟨_, h1.set' _, fun j hj => ?_⟩
  rw [Array.getElem?_setIfInBounds]
  unfold ins
  by_cases e : k = j
  · subst e
    have := (Array.getElem?_eq_some_iff.1 (h2 k hk)).1
    rw [if_pos rfl, if_pos this]; simp
  · rw [if_neg e, h2 j hj]
    have : (j == k) = false := by simp; omega
    rw [this, Bool.or_false]
theorem BolAt.congr {m m' : Nat → Bool} {n B : Nat} {w : World} (h : BolAt m n B w) (e : ∀ j, j < n → m j = m' j) : BolAt m' n B w := by
  obtain ⟨cs, h1, h2⟩ := h; exact ⟨cs, h1, fun j hj => by rw [← e j hj]; exact h2 j hj⟩
section
variable {G M B Q n : Nat} {rv nv : Value} {m : Nat → Bool} {l : List Int} {w W W' : World}
end
end
section
open Go.RowKit
/- 1. What holds of marks and queue. -/
def Sound (E : Nat → Nat → Prop) (r0 n : Nat) (m : Nat → Bool) (l : List Int) : Prop :=
  m r0 = true ∧ (∀ j, j < n → m j = true → Rch E r0 j) ∧ (∀ x, x ∈ l → ∃ j : Nat, x = (j : Int) ∧ j < n ∧ m j = true) ∧ l.length ≤ cnt m n
def OutI (E : Nat → Nat → Prop) (r : Int) (n : Nat) (m : Nat → Bool) (l : List Int) : Prop :=
  (¬ (0 ≤ r ∧ r < n) ∧ l = [] ∧ ∀ j, j < n → m j = false) ∨ (0 ≤ r ∧ r < n ∧ Sound E r.toNat n m l ∧ ∀ j, j < n → m j = true → (j : Int) ∈ l ∨ ∀ b, E j b → m b = true)
def InI (E : Nat → Nat → Prop) (r0 n a : Nat) (P : Nat → Prop) (m : Nat → Bool) (l : List Int) : Prop :=
  Sound E r0 n m l ∧ (∀ j, j < n → m j = true → (j : Int) ∈ l ∨ j = a ∨ ∀ b, E j b → m b = true) ∧ m a = true ∧ ∀ b, P b → m b = true
def left7 (n : Nat) (m : Nat → Bool) (l : List Int) : Nat := 2 * (n - cnt m n) + l.length
theorem ins_keep {m : Nat → Bool} {k j : Nat} (h : m j = true) : ins m k j = true := by unfold ins; rw [h]; rfl
theorem ins_here (m : Nat → Bool) (k : Nat) : ins m k k = true := by unfold ins; simp
theorem ins_inv {m : Nat → Bool} {k j : Nat} (h : ins m k j = true) : m j = true ∨ j = k := by
  unfold ins at h; rw [Bool.or_eq_true] at h
  rcases h with h | h
  · exact .inl h
  · exact .inr (by simpa using h)
theorem cnt_ins {m : Nat → Bool} {k n : Nat} (hk : k < n) (hm : m k = false) : cnt m n < cnt (ins m k) n := cnt_more n (fun _ _ h => ins_keep h) ⟨k, hk, hm, ins_here m k⟩
theorem Sound.add {E : Nat → Nat → Prop} {r0 n k : Nat} {m : Nat → Bool} {l l' : List Int} (h : Sound E r0 n m l) (hk : k < n) (hm : m k = false) (hr : Rch E r0 k) (hp : l'.Perm (l ++ [(k : Int)])) : Sound E r0 n (ins m k) l' ∧ left7 n (ins m k) l' ≤ left7 n m l := by
  obtain ⟨h1, h2, h3, h4⟩ := h
  have hc := cnt_ins hk hm
  have hl := hp.length_eq
  rw [List.length_append] at hl
  have hle := cnt_le (ins m k) n
  refine ⟨⟨ins_keep h1, fun j hj hi => ?_, fun x hx => ?_, by simp at hl; omega⟩, by unfold left7; simp at hl; omega⟩
  · rcases ins_inv hi with h | rfl
    · exact h2 j hj h
    · exact hr
  · rcases List.mem_append.1 (hp.mem_iff.1 hx) with hx | hx
    · obtain ⟨j, e, hj, hm⟩ := h3 x hx
      exact ⟨j, e, hj, ins_keep hm⟩
    · exact ⟨k, by simpa using hx, hk, ins_here m k⟩
theorem InI.add {E : Nat → Nat → Prop} {r0 n a k : Nat} {P P' : Nat → Prop} {m : Nat → Bool} {l l' : List Int} (h : InI E r0 n a P m l) (ha : a < n) (hk : k < n) (he : E a k) (hm : m k = false) (hp : l'.Perm (l ++ [(k : Int)])) (hP : ∀ b, P' b → P b ∨ b = k) : InI E r0 n a P' (ins m k) l' ∧ left7 n (ins m k) l' ≤ left7 n m l := by
  obtain ⟨h1, h2, h3, h4⟩ := h
  have hs := h1.add hk hm (.call (h1.2.1 a ha h3) he) hp
  refine ⟨⟨hs.1, fun j hj hi => ?_, ins_keep h3, fun b hb => ?_⟩, hs.2⟩
  · rcases ins_inv hi with h | rfl
    · rcases h2 j hj h with h | h | h
      · exact .inl (hp.mem_iff.2 (List.mem_append_left _ h))
      · exact .inr (.inl h)
      · exact .inr (.inr fun b hb => ins_keep (h b hb))
    · exact .inl (hp.mem_iff.2 (List.mem_append_right _ (by simp)))
  · rcases hP b hb with h | rfl
    · exact ins_keep (h4 b h)
    · exact ins_here m b
theorem InI.same {E : Nat → Nat → Prop} {r0 n a : Nat} {P P' : Nat → Prop} {m : Nat → Bool} {l : List Int} (h : InI E r0 n a P m l) (hP : ∀ b, P' b → P b ∨ m b = true) : InI E r0 n a P' m l :=
  ⟨h.1, h.2.1, h.2.2.1, fun b hb => by rcases hP b hb with h' | h'; exact h.2.2.2 b h'; exact h'⟩
theorem OutI.pop {E : Nat → Nat → Prop} {r : Int} {n : Nat} {m : Nat → Bool} {l l1 : List Int} {x : Int} (h : OutI E r n m l) (hp : (l1 ++ [x]).Perm l) : ∃ a : Nat, x = (a : Int) ∧ a < n ∧ InI E r.toNat n a (fun _ => False) m l1 ∧ left7 n m l1 < left7 n m l := by
  have hl := hp.length_eq
  rw [List.length_append] at hl
  simp at hl
  rcases h with ⟨-, h, -⟩ | ⟨-, -, ⟨h1, h2, h3, h4⟩, h5⟩
  · rw [h] at hl; simp at hl
  · obtain ⟨a, e, ha, hm⟩ := h3 x (hp.mem_iff.1 (List.mem_append_right _ (by simp)))
    refine ⟨a, e, ha, ⟨⟨h1, h2, fun y hy => h3 y (hp.mem_iff.1 (List.mem_append_left _ hy)), by omega⟩, fun j hj hmj => ?_, hm, fun _ h => h.elim⟩, by unfold left7; omega⟩
    rcases h5 j hj hmj with h | h
    · rcases List.mem_append.1 (hp.mem_iff.2 h) with h | h
      · exact .inl h
      · have : (j : Int) = x := by simpa using h
        exact .inr (.inl (by omega))
    · exact .inr (.inr h)
theorem InI.out {E : Nat → Nat → Prop} {r : Int} {n a : Nat} {P : Nat → Prop} {m : Nat → Bool} {l : List Int} (h : InI E r.toNat n a P m l) (h0 : 0 ≤ r) (h1 : r < n) (hP : ∀ b, E a b → P b) : OutI E r n m l := by
  obtain ⟨g1, g2, g3, g4⟩ := h
  refine .inr ⟨h0, h1, g1, fun j hj hm => ?_⟩
  rcases g2 j hj hm with h | rfl | h
  · exact .inl h
  · exact .inr fun b hb => g4 b (hP b hb)
  · exact .inr h
theorem OutI.done {rs : List PR} {ns : List PN} {r : Int} {m : Nat → Bool} (h : OutI (callE rs ns) r rs.length m []) (hE : ∀ a b, callE rs ns a b → b < rs.length) : memb m rs.length = reachL rs ns r := by
  unfold reachL
  rcases h with ⟨h1, -, h2⟩ | ⟨h1, h2, ⟨h3, h4, -, -⟩, h5⟩
  · rw [if_neg h1]
    have : memb m rs.length = memb (fun _ => false) rs.length := memb_congr h2
    rw [this]; unfold memb; simp
  · rw [if_pos ⟨h1, h2⟩]
    refine memb_congr (closed_is h3 (fun a b ha hm he => ?_) hE (by omega) h4)
    rcases h5 a ha hm with h | h
    · simp at h
    · exact h b he
/- 2. The walk. -/
/-- The nodes of a rule: where they lie, and what a call in them says. -/
def Done (ns : List PN) (f k : Nat) (b : Nat) : Prop := ∃ (t : Nat) (n : PN), t < k ∧ ns[f + t]? = some n ∧ n.op = 2 ∧ n.rule = (b : Int)
theorem Done.succ {ns : List PN} {f k b : Nat} {n : PN} (hn : ns[f + k]? = some n) (h : Done ns f (k + 1) b) : Done ns f k b ∨ (n.op = 2 ∧ n.rule = (b : Int)) := by
  obtain ⟨t, n', h1, h2, h3, h4⟩ := h
  by_cases e : t = k
  · subst e
    rw [hn] at h2
    obtain rfl := Option.some.inj h2
    exact .inr ⟨h3, h4⟩
  · exact .inl ⟨t, n', by omega, h2, h3, h4⟩
theorem BolAt.grown {m : Nat → Bool} {n B base k : Nat} {v : Value} {xs : List Value} {w w1 w' : World} (h : BolAt m n B w1) (ho : w.ownsRow base 3 1 v k xs) (hb : Below w.heap.size w w1) (hg : w1.grownBy w' v.ownBlock) : BolAt m n B w' := by
  obtain ⟨cs, h1, h2⟩ := h
  exact ⟨cs, h1.grown hg (fun g e => by obtain ⟨c, fz, hc⟩ := Lib.ownsRow_kind (ownsRow_grown ho hb) g e; exact ⟨c, 3, fz, hc, by decide⟩), h2⟩
theorem OutI.len {E : Nat → Nat → Prop} {r : Int} {n : Nat} {m : Nat → Bool} {l : List Int} (h : OutI E r n m l) : l.length ≤ n := by
  have := cnt_le m n
  rcases h with ⟨-, h, -⟩ | ⟨-, -, ⟨-, -, -, h⟩, -⟩
  · rw [h]; exact Nat.zero_le _
  · omega
theorem OutI.range {E : Nat → Nat → Prop} {r : Int} {n : Nat} {m : Nat → Bool} {l : List Int} (h : OutI E r n m l) (hl : 0 < l.length) : 0 ≤ r ∧ r < n := by
  rcases h with ⟨-, h, -⟩ | ⟨h1, h2, -⟩
  · rw [h] at hl; exact absurd hl (Nat.lt_irrefl _)
  · exact ⟨h1, h2⟩
end
section
open Go.RowKit
/-- What the reference keeps in memory. -/
def RK (G B n : Nat) (rv nv : Value) (m : Nat → Bool) (w W : World) : Prop := Below w.heap.size w W ∧ Bl W G 25 #[rv, nv] ∧ BolAt m n B W ∧ w.heap.size ≤ B
section
variable {G B n : Nat} {rv nv : Value} {m : Nat → Bool} {w W W' : World}
theorem RK.lo (h : RK G B n rv nv m w W) : Below w.heap.size w W := h.1
theorem RK.g (h : RK G B n rv nv m w W) : Bl W G 25 #[rv, nv] := h.2.1
theorem RK.b (h : RK G B n rv nv m w W) : BolAt m n B W := h.2.2.1
theorem RK.below (h : RK G B n rv nv m w W) (hb : Below W.heap.size W W') : RK G B n rv nv m w W' := ⟨h.1.trans (hb.mono h.1.size), h.g.below hb, h.b.below hb, h.2.2.2⟩
theorem RK.put {k : Nat} (h : RK G B n rv nv m w W) (hk : k < n) : RK G B n rv nv (ins m k) w (W.setCell ⟨B, k, none⟩ (.bool true)) := by
  obtain ⟨h1, h2, h3, h4⟩ := h
  obtain ⟨cs, hB, -⟩ := id h3
  exact ⟨h1.setCell (p := ⟨B, k, none⟩) h4 _, h2.other (h2.ne hB (by decide)) _, h3.put hk, h4⟩
end
/-- The marks within a round: nothing that is not reached, all marks of before, and what the nodes so far say. -/
def InK (rs : List PR) (ns : List PN) (r0 : Nat) (m0 : Nat → Bool) (i : Nat) (m : Nat → Bool) : Prop :=
  (∀ j, j < rs.length → m j = true → Rch (callE rs ns) r0 j) ∧ (∀ j, j < rs.length → m0 j = true → m j = true) ∧
    ∀ (t : Nat) (n : PN) (b : Nat), t < i → ns[t]? = some n → n.op = 2 → m0 (ownL rs (t : Int)) = true → n.rule = (b : Int) → m b = true
theorem InK.mark {rs : List PR} {ns : List PN} {r0 i k : Nat} {m0 m : Nat → Bool} {n : PN} (h : InK rs ns r0 m0 i m) (hn : ns[i]? = some n) (ho : n.op = 2) (hl : ownL rs (i : Int) < rs.length) (hm : m (ownL rs (i : Int)) = true) (hk : n.rule = (k : Int)) : InK rs ns r0 m0 (i + 1) (ins m k) := by
  obtain ⟨h1, h2, h3⟩ := h
  refine ⟨fun j hj hi => ?_, fun j hj h => ins_keep (h2 j hj h), fun t n' b ht hn' ho' hm' hb => ?_⟩
  · rcases ins_inv hi with h | rfl
    · exact h1 j hj h
    · exact .call (h1 _ hl hm) ⟨i, n, hn, ho, rfl, hk⟩
  · by_cases e : t = i
    · subst e
      rw [hn] at hn'
      obtain rfl := Option.some.inj hn'
      have : b = k := by omega
      subst this
      exact ins_here m b
    · exact ins_keep (h3 t n' b (by omega) hn' ho' hm' hb)
/-- The marks between two rounds. -/
def OutK (rs : List PR) (ns : List PN) (r0 k : Nat) (m : Nat → Bool) : Prop :=
  m r0 = true ∧ (∀ j, j < rs.length → m j = true → Rch (callE rs ns) r0 j) ∧ ((∀ a b, a < rs.length → m a = true → callE rs ns a b → m b = true) ∨ k < cnt m rs.length)
theorem OutK.next {rs : List PR} {ns : List PN} {r0 k : Nat} {m m' : Nat → Bool} (h : OutK rs ns r0 k m) (hE : ∀ a b, callE rs ns a b → b < rs.length) (hr : r0 < rs.length) (hi : InK rs ns r0 m ns.length m') : OutK rs ns r0 (k + 1) m' := by
  obtain ⟨h1, h2, h3⟩ := h
  obtain ⟨g1, g2, g3⟩ := hi
  exact ⟨g2 r0 hr h1, g1, round_more h1 hE hr g1 g2 (fun a b _ hm ⟨t, n, e1, e2, e3, e4⟩ => g3 t n b (List.getElem?_eq_some_iff.1 e1).1 e1 e2 (by rw [e3]; exact hm) e4) h3⟩
theorem OutK.done {rs : List PR} {ns : List PN} {r0 : Nat} {r : Int} {m : Nat → Bool} (h : OutK rs ns r0 rs.length m) (hE : ∀ a b, callE rs ns a b → b < rs.length) (hr : r0 < rs.length) (e : r = (r0 : Int)) : memb m rs.length = reachL rs ns r := by
  subst e
  obtain ⟨h1, h2, h3⟩ := h
  unfold reachL
  rw [if_pos ⟨by omega, by omega⟩, show ((r0 : Int)).toNat = r0 by omega]
  exact memb_congr (closed_is h1 (round_all h3) hE hr h2)
theorem OutK.first {rs : List PR} {ns : List PN} {r0 : Nat} (hr : r0 < rs.length) : OutK rs ns r0 0 (ins (fun _ => false) r0) := by
  have hc := cnt_ins (m := fun _ => false) hr rfl
  refine ⟨ins_here _ _, fun j hj hm => ?_, .inr (by omega)⟩
  rcases ins_inv hm with h | rfl
  · cases h
  · exact .here
end
end Go.Proofs.Ytocklhehfdilmaa
