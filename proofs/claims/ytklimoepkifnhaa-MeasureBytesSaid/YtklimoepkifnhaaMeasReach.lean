/- measure: Expression; the marks; Reach and its reference. -/
import Derived.Test.YtklimoepkifnhaaMeasOf
import Derived.Test.YtklimoepkifnhaaGramFirst
import Derived.Deep.Cut
import Derived.Test.YtklimoepkifnhaaMeasPop
import Derived.Test.YtklimoepkifnhaaSetRef3
import Derived.Test.YtklimoepkifnhaaGramFew
namespace Go.Proofs.Ytklimoepkifnhaa
section
open Go.RowKit
/-- A rule's nodes lie from behind the root before it to its own root. -/
theorem own_span {ns : List PN} : ∀ (rs : List PR) (b : Int), -1 ≤ b → ordR ns rs b = true → ∀ (r : Nat) (x : PR), rs[r]? = some x → (b ≤ exL ns x.root ∧ exL ns x.root < x.root ∧ x.root < ns.length) ∧ ∀ i, b < i → (ownL rs i = r ↔ exL ns x.root < i ∧ i ≤ x.root)
  | [], _, _, _, r, x, h => by simp at h
  | y :: t, b, hb, ho, 0, x, h => by
    obtain ⟨h1, h2, h3, h4⟩ := ordR_cons ho
    obtain rfl : y = x := by simpa using h
    refine ⟨⟨by omega, by omega, h2⟩, fun i hi => ?_⟩
    by_cases hy : y.root < i
    · rw [ownL_cons_yes hy]; omega
    · rw [ownL_cons_no hy]; omega
  | y :: t, b, hb, ho, r + 1, x, h => by
    obtain ⟨h1, h2, h3, h4⟩ := ordR_cons ho
    have hx : t[r]? = some x := by simpa using h
    obtain ⟨⟨g1, g2, g3⟩, g4⟩ := own_span t y.root (by omega) h4 r x hx
    refine ⟨⟨by omega, g2, g3⟩, fun i hi => ?_⟩
    by_cases hy : y.root < i
    · rw [ownL_cons_yes hy, ← g4 i hy]; omega
    · rw [ownL_cons_no hy]; omega
theorem NodesAt.part {w : World} {xa : Option Addr} {xc : Nat} {xs : List PN} (h : NodesAt w (.slice xa xs.length xc) xs) (f i : Nat) (hf : f ≤ i) (hi : i < xs.length) :
    ∃ b off, xa = some ⟨b, off, none⟩ ∧ NodesAt w (.slice (some ⟨b, off + f * 7, none⟩) (i + 1 - f) (xc - f)) ((xs.drop f).take (i + 1 - f)) := by
  obtain ⟨hl, a, c, he, hx⟩ := h
  injection he with h1 h2 h3
  subst h1
  rcases hx with h | ⟨b, off, e, hx⟩
  · rw [h] at hi; simp at hi
  · have hlen : ((xs.drop f).take (i + 1 - f)).length = i + 1 - f := by rw [List.length_take, List.length_drop]; omega
    refine ⟨b, off, e, by omega, some ⟨b, off + f * 7, none⟩, xc - f, by rw [hlen], .inr ⟨b, off + f * 7, rfl, fun j n hn => ?_⟩⟩
    have hj : j < i + 1 - f := by have := (List.getElem?_eq_some_iff.1 hn).1; omega
    rw [List.getElem?_take_of_lt hj, List.getElem?_drop] at hn
    have := hx (f + j) n hn
    rw [show off + f * 7 + j * 7 = off + (f + j) * 7 by omega]
    exact this
set_option maxHeartbeats 4000000 in
set_option maxRecDepth 100000 in
theorem expr7_any (rv : Value) (nb no nc : Nat) (rs : List PR) (ns : List PN) (r i f : Nat) (x : PR) (w : World) (hR : RulesIn w rv rs) (hN : NodesAt w (.slice (some ⟨nb, no, none⟩) ns.length nc) ns) (hs : ns.length ≤ 1000000) (hc : ns.length ≤ nc) (hx : rs[r]? = some x) (hi : x.root = (i : Int)) (hil : i < ns.length) (hex : exL ns (i : Int) ≠ -2) (hf : fstL ns i = f) (hfi : f ≤ i) :
    Calls Try.prog 36 #[.agg #[rv, .slice (some ⟨nb, no, none⟩) ns.length nc], .int .i64 (r : Int)] w fun e w' => e = .returned (.slice (some ⟨nb, no + f * 7, none⟩) (i + 1 - f) (nc - f)) ∧ Below w.heap.size w w' := by
  have hrl := (List.getElem?_eq_some_iff.1 hx).1
  obtain ⟨-, ra, rc, rfl, hra⟩ := id hR
  rcases hra with h0 | ⟨rb, ro, rfl, hca⟩
  · rw [h0] at hrl; exact absurd hrl (Nat.not_lt_zero _)
  obtain ⟨r0, r1⟩ := hca r x hx
  rw [hi] at r1
  have hC1 := fun (W : World) (hb : Below w.heap.size w W) => first_any (some ⟨rb, ro, none⟩) rs.length rc (.slice (some ⟨nb, no, none⟩) ns.length nc) ns i W (hN.kept hb (Nat.le_refl _)) hil hex
  rw [hf] at hC1
  have HC1 := Lib.hid hC1
  have lr := lt_of_cell r0
  have k0 : (r : Int) < (rs.length : Int) := by omega
  have hiI : (i : Int) < ns.length := by omega
  have hiI2 : ¬ (ns.length : Int) ≤ i := by omega
  have hfI : ¬ (f : Int) < 0 := by omega
  have e1 : (f : Int) ≤ (i : Int) + 1 := by omega
  have e2 : (i : Int) + 1 ≤ (nc : Int) := by omega
  have e3 : ¬ nc = f := by omega
  have e4 : (0 : Int) ≤ (i : Int) + 1 := by omega
  have e5 : IntKind.i64.wrap ((i : Int) + 1) = (i : Int) + 1 := by rw [IntKind.wrap_i64]; omega
  have e6 : ((i : Int) + 1).toNat = i + 1 := by omega
  have e7 : ¬ (nc : Int) < (i : Int) + 1 := by omega
  have e8 : ¬ (i : Int) + 1 < (f : Int) := by omega
  clear hC1 hR hN hx hex hf hca hi
  go_enter Try.func36, Try.ntmps36
  go_wp2_with (go_at_call 42; (with_reducible refine (HC1.out _ (one_new _ _)).mono ?_); rintro e w1 ⟨rfl, hb1⟩; have HB1 := Lib.hid ((one_new w _).trans (hb1.mono (one_new w _).size)); have hgg := (Bl.new w 25 _).below hb1; have p0 := hgg.cell (o := 0) (u := .slice (some ⟨rb, ro, none⟩) rs.length rc) rfl; have p1 := hgg.cell (o := 1) (u := .slice (some ⟨nb, no, none⟩) ns.length nc) rfl; clear hb1 hgg)
  go_ret
  exact ⟨rfl, HB1.out⟩
end
section
open Go.RowKit
def BolAt (m : Nat → Bool) (n B : Nat) (w : World) : Prop := ∃ cs, Bl w B 4 cs ∧ ∀ j, j < n → cs[j]? = some (.bool (m j))
theorem Bl.ne {w : World} {b c : Nat} {t u : TypeId} {xs ys : Array Value} (h : Bl w b t xs) (k : Bl w c u ys) (hn : t ≠ u) : b ≠ c := by
  rintro rfl
  unfold Bl at h k
  rw [h] at k
  injection k with k
  injection k with _ k _
  exact hn k
theorem BolAt.below {m : Nat → Bool} {n B : Nat} {w w' : World} (h : BolAt m n B w) (hb : Below w.heap.size w w') : BolAt m n B w' := by
  obtain ⟨cs, h1, h2⟩ := h; exact ⟨cs, h1.below hb, h2⟩
theorem BolAt.cell {m : Nat → Bool} {n B j : Nat} {w : World} (h : BolAt m n B w) (hj : j < n) : w.cell? ⟨B, j, none⟩ = some (.bool (m j)) := by
  obtain ⟨cs, h1, h2⟩ := h; exact h1.cell (h2 j hj)
theorem BolAt.free {m : Nat → Bool} {n B : Nat} {w : World} (h : BolAt m n B w) (o : Nat) : w.frozen? ⟨B, o, none⟩ = false := by
  obtain ⟨cs, h1, h2⟩ := h; exact h1.free o
theorem BolAt.put {m : Nat → Bool} {n B k : Nat} {w : World} (h : BolAt m n B w) (hk : k < n) : BolAt (ins m k) n B (w.setCell ⟨B, k, none⟩ (.bool true)) := by
  obtain ⟨cs, h1, h2⟩ := h
  refine ⟨_, h1.set' _, fun j hj => ?_⟩
  rw [Array.getElem?_setIfInBounds]
  unfold ins
  by_cases e : k = j
  · subst e
    have := (Array.getElem?_eq_some_iff.1 (h2 k hk)).1
    rw [if_pos rfl, if_pos this]; simp
  · rw [if_neg e, h2 j hj]
    have : (j == k) = false := by simp; omega
    rw [this, Bool.or_false]
theorem BolAt.congr {m m' : Nat → Bool} {n B : Nat} {w : World} (h : BolAt m n B w) (e : ∀ j, j < n → m j = m' j) : BolAt m' n B w := by
  obtain ⟨cs, h1, h2⟩ := h; exact ⟨cs, h1, fun j hj => by rw [← e j hj]; exact h2 j hj⟩
/-- What Reach keeps in memory: the grammar, the marks, the queue. -/
def RQ (G M B Q n : Nat) (rv nv : Value) (m : Nat → Bool) (l : List Int) (w W : World) : Prop :=
  Below w.heap.size w W ∧ Bl W G 25 #[rv, nv] ∧ Bl W M 60 #[.slice (some ⟨B, 0, none⟩) n n] ∧ BolAt m n B W ∧ QAt w.heap.size Q l W ∧ w.heap.size ≤ B ∧ w.heap.size ≤ Q
section
variable {G M B Q n : Nat} {rv nv : Value} {m : Nat → Bool} {l : List Int} {w W W' : World}
theorem RQ.lo (h : RQ G M B Q n rv nv m l w W) : Below w.heap.size w W := h.1
theorem RQ.g (h : RQ G M B Q n rv nv m l w W) : Bl W G 25 #[rv, nv] := h.2.1
theorem RQ.mk0 (h : RQ G M B Q n rv nv m l w W) : Bl W M 60 #[.slice (some ⟨B, 0, none⟩) n n] := h.2.2.1
theorem RQ.b (h : RQ G M B Q n rv nv m l w W) : BolAt m n B W := h.2.2.2.1
theorem RQ.q (h : RQ G M B Q n rv nv m l w W) : QAt w.heap.size Q l W := h.2.2.2.2.1
theorem RQ.bq (h : RQ G M B Q n rv nv m l w W) : w.heap.size ≤ Q := h.2.2.2.2.2.2
theorem RQ.below (h : RQ G M B Q n rv nv m l w W) (hb : Below W.heap.size W W') : RQ G M B Q n rv nv m l w W' :=
  ⟨h.1.trans (hb.mono h.1.size), h.g.below hb, h.mk0.below hb, h.b.below hb, h.q.below hb, h.2.2.2.2.2.1, h.bq⟩
/-- A mark. -/
theorem RQ.put {k : Nat} (h : RQ G M B Q n rv nv m l w W) (hk : k < n) : RQ G M B Q n rv nv (ins m k) l w (W.setCell ⟨B, k, none⟩ (.bool true)) := by
  obtain ⟨h1, h2, h3, h4, h5, h6, h7⟩ := h
  obtain ⟨cs, hB, -⟩ := id h4
  obtain ⟨a, c, hQ, hO⟩ := h5
  exact ⟨h1.setCell (p := ⟨B, k, none⟩) h6 _, h2.other (h2.ne hB (by decide)) _, h3.other (h3.ne hB (by decide)) _, h4.put hk, ⟨a, c, hQ.other (hQ.ne hB (by decide)) _, ownsRow_setCell_other hO (a := ⟨B, k, none⟩) (row_ne hO ⟨_, _, hB⟩ (by decide)) _⟩, h6, h7⟩
/-- Another queue. -/
theorem RQ.turn {l' : List Int} (h : RQ G M B Q n rv nv m l w W) (hk : Kp w.heap.size Q Q 3 W W') (hq : QAt w.heap.size Q l' W') : RQ G M B Q n rv nv m l' w W' := by
  obtain ⟨h1, h2, h3, h4, h5, h6, h7⟩ := h
  obtain ⟨a, c, hQ, hO⟩ := h5
  obtain ⟨cs, hB, hc⟩ := h4
  have hb := hk.below h7 h7 h1.size
  exact ⟨h1.trans hb, hk.bl h2 (h2.ne hQ (by decide)) (h2.ne hQ (by decide)) (by decide), hk.bl h3 (h3.ne hQ (by decide)) (h3.ne hQ (by decide)) (by decide), ⟨cs, hk.bl hB (hB.ne hQ (by decide)) (hB.ne hQ (by decide)) (by decide), hc⟩, hq, h6, h7⟩
end
set_option maxHeartbeats 4000000 in
set_option maxRecDepth 100000 in
/-- No such rule, or one that is marked. -/
theorem mark_no (G M B Q n : Nat) (rv nv : Value) (m : Nat → Bool) (l : List Int) (r : Int) (w W : World) (h : RQ G M B Q n rv nv m l w W) (hr : r < 0 ∨ (n : Int) ≤ r ∨ (0 ≤ r ∧ r < n ∧ m r.toNat = true)) :
    Calls Try.prog 32 #[.int .i64 r, .pointer (some ⟨M, 0, none⟩), .pointer (some ⟨Q, 0, none⟩)] W fun e w' => (∃ v, e = .returned v) ∧ w' = W := by
  have m0 : W.cell? ⟨M, 0, none⟩ = some (.slice (some ⟨B, 0, none⟩) n n) := h.mk0.cell (o := 0) rfl
  rcases hr with hr | hr | ⟨h0, h1, h2⟩
  · have k1 : ¬ 0 ≤ r := by omega
    go_enter Try.func32, Try.ntmps32
    go_wp2
    go_end0
    exact ⟨⟨_, rfl⟩, rfl⟩
  · by_cases h0 : 0 ≤ r
    · have k1 : ¬ r < (n : Int) := by omega
      go_enter Try.func32, Try.ntmps32
      go_wp2
      go_end0
      exact ⟨⟨_, rfl⟩, rfl⟩
    · go_enter Try.func32, Try.ntmps32
      go_wp2
      go_end0
      exact ⟨⟨_, rfl⟩, rfl⟩
  · obtain ⟨k, rfl⟩ : ∃ k : Nat, r = k := ⟨r.toNat, by omega⟩
    have c0 := h.b.cell (j := k) (by omega)
    rw [show ((k : Int)).toNat = k by omega] at h2
    rw [h2] at c0
    clear h
    go_enter Try.func32, Try.ntmps32
    go_wp2
    go_end0
    exact ⟨⟨_, rfl⟩, rfl⟩
set_option maxHeartbeats 4000000 in
set_option maxRecDepth 100000 in
theorem mark_yes (G M B Q n : Nat) (rv nv : Value) (m : Nat → Bool) (l : List Int) (k : Nat) (w W : World) (h : RQ G M B Q n rv nv m l w W) (hk : k < n) (hm : m k = false) (hl : l.length ≤ 900000) :
    Calls Try.prog 32 #[.int .i64 (k : Int), .pointer (some ⟨M, 0, none⟩), .pointer (some ⟨Q, 0, none⟩)] W fun e w' => (∃ v, e = .returned v) ∧ ∃ l', RQ G M B Q n rv nv (ins m k) l' w w' ∧ l'.Perm (l ++ [(k : Int)]) := by
  have m0 : W.cell? ⟨M, 0, none⟩ = some (.slice (some ⟨B, 0, none⟩) n n) := h.mk0.cell (o := 0) rfl
  have c0 := h.b.cell (j := k) hk
  have z0 := h.b.free k
  rw [hm] at c0
  have h0 : (0 : Int) ≤ (k : Int) := by omega
  have h1 : (k : Int) < (n : Int) := by omega
  have hbs := h.lo.size
  have HP := Lib.hid (h.put hk)
  obtain ⟨cs, hB, -⟩ := h.b
  have hne := h.mk0.ne hB (by decide)
  have HC := Lib.hid (hpush_any w.heap.size Q l (k : Int) (W.setCell ⟨B, k, none⟩ (.bool true)) (h.put hk).q hl (h.put hk).lo.size)
  clear h hB
  go_enter Try.func32, Try.ntmps32
  go_wp2_with (go_at_call 33; (with_reducible refine HC.out.mono ?_); rintro e w2 ⟨⟨v2, rfl⟩, l2, hq2, hp2, hk2⟩; have HR := Lib.hid (HP.out.turn hk2 hq2); have HP2 := Lib.hid hp2; clear hq2 hp2 hk2)
  go_end0
  exact ⟨⟨_, rfl⟩, _, HR.out, HP2.out⟩
end
section
open Go.RowKit
/- 1. What holds of marks and queue. -/
def Sound (E : Nat → Nat → Prop) (r0 n : Nat) (m : Nat → Bool) (l : List Int) : Prop :=
  m r0 = true ∧ (∀ j, j < n → m j = true → Rch E r0 j) ∧ (∀ x, x ∈ l → ∃ j : Nat, x = (j : Int) ∧ j < n ∧ m j = true) ∧ l.length ≤ cnt m n
def OutI (E : Nat → Nat → Prop) (r : Int) (n : Nat) (m : Nat → Bool) (l : List Int) : Prop :=
  (¬ (0 ≤ r ∧ r < n) ∧ l = [] ∧ ∀ j, j < n → m j = false) ∨ (0 ≤ r ∧ r < n ∧ Sound E r.toNat n m l ∧ ∀ j, j < n → m j = true → (j : Int) ∈ l ∨ ∀ b, E j b → m b = true)
def InI (E : Nat → Nat → Prop) (r0 n a : Nat) (P : Nat → Prop) (m : Nat → Bool) (l : List Int) : Prop :=
  Sound E r0 n m l ∧ (∀ j, j < n → m j = true → (j : Int) ∈ l ∨ j = a ∨ ∀ b, E j b → m b = true) ∧ m a = true ∧ ∀ b, P b → m b = true
def left7 (n : Nat) (m : Nat → Bool) (l : List Int) : Nat := 2 * (n - cnt m n) + l.length
theorem ins_keep {m : Nat → Bool} {k j : Nat} (h : m j = true) : ins m k j = true := by unfold ins; rw [h]; rfl
theorem ins_here (m : Nat → Bool) (k : Nat) : ins m k k = true := by unfold ins; simp
theorem ins_inv {m : Nat → Bool} {k j : Nat} (h : ins m k j = true) : m j = true ∨ j = k := by
  unfold ins at h; rw [Bool.or_eq_true] at h
  rcases h with h | h
  · exact .inl h
  · exact .inr (by simpa using h)
theorem cnt_ins {m : Nat → Bool} {k n : Nat} (hk : k < n) (hm : m k = false) : cnt m n < cnt (ins m k) n := cnt_more n (fun _ _ h => ins_keep h) ⟨k, hk, hm, ins_here m k⟩
theorem Sound.add {E : Nat → Nat → Prop} {r0 n k : Nat} {m : Nat → Bool} {l l' : List Int} (h : Sound E r0 n m l) (hk : k < n) (hm : m k = false) (hr : Rch E r0 k) (hp : l'.Perm (l ++ [(k : Int)])) : Sound E r0 n (ins m k) l' ∧ left7 n (ins m k) l' ≤ left7 n m l := by
  obtain ⟨h1, h2, h3, h4⟩ := h
  have hc := cnt_ins hk hm
  have hl := hp.length_eq
  rw [List.length_append] at hl
  have hle := cnt_le (ins m k) n
  refine ⟨⟨ins_keep h1, fun j hj hi => ?_, fun x hx => ?_, by simp at hl; omega⟩, by unfold left7; simp at hl; omega⟩
  · rcases ins_inv hi with h | rfl
    · exact h2 j hj h
    · exact hr
  · rcases List.mem_append.1 (hp.mem_iff.1 hx) with hx | hx
    · obtain ⟨j, e, hj, hm⟩ := h3 x hx
      exact ⟨j, e, hj, ins_keep hm⟩
    · exact ⟨k, by simpa using hx, hk, ins_here m k⟩
theorem InI.add {E : Nat → Nat → Prop} {r0 n a k : Nat} {P P' : Nat → Prop} {m : Nat → Bool} {l l' : List Int} (h : InI E r0 n a P m l) (ha : a < n) (hk : k < n) (he : E a k) (hm : m k = false) (hp : l'.Perm (l ++ [(k : Int)])) (hP : ∀ b, P' b → P b ∨ b = k) : InI E r0 n a P' (ins m k) l' ∧ left7 n (ins m k) l' ≤ left7 n m l := by
  obtain ⟨h1, h2, h3, h4⟩ := h
  have hs := h1.add hk hm (.call (h1.2.1 a ha h3) he) hp
  refine ⟨⟨hs.1, fun j hj hi => ?_, ins_keep h3, fun b hb => ?_⟩, hs.2⟩
  · rcases ins_inv hi with h | rfl
    · rcases h2 j hj h with h | h | h
      · exact .inl (hp.mem_iff.2 (List.mem_append_left _ h))
      · exact .inr (.inl h)
      · exact .inr (.inr fun b hb => ins_keep (h b hb))
    · exact .inl (hp.mem_iff.2 (List.mem_append_right _ (by simp)))
  · rcases hP b hb with h | rfl
    · exact ins_keep (h4 b h)
    · exact ins_here m b
theorem InI.same {E : Nat → Nat → Prop} {r0 n a : Nat} {P P' : Nat → Prop} {m : Nat → Bool} {l : List Int} (h : InI E r0 n a P m l) (hP : ∀ b, P' b → P b ∨ m b = true) : InI E r0 n a P' m l :=
  ⟨h.1, h.2.1, h.2.2.1, fun b hb => by rcases hP b hb with h' | h'; exact h.2.2.2 b h'; exact h'⟩
theorem OutI.pop {E : Nat → Nat → Prop} {r : Int} {n : Nat} {m : Nat → Bool} {l l1 : List Int} {x : Int} (h : OutI E r n m l) (hp : (l1 ++ [x]).Perm l) : ∃ a : Nat, x = (a : Int) ∧ a < n ∧ InI E r.toNat n a (fun _ => False) m l1 ∧ left7 n m l1 < left7 n m l := by
  have hl := hp.length_eq
  rw [List.length_append] at hl
  simp at hl
  rcases h with ⟨-, h, -⟩ | ⟨-, -, ⟨h1, h2, h3, h4⟩, h5⟩
  · rw [h] at hl; simp at hl
  · obtain ⟨a, e, ha, hm⟩ := h3 x (hp.mem_iff.1 (List.mem_append_right _ (by simp)))
    refine ⟨a, e, ha, ⟨⟨h1, h2, fun y hy => h3 y (hp.mem_iff.1 (List.mem_append_left _ hy)), by omega⟩, fun j hj hmj => ?_, hm, fun _ h => h.elim⟩, by unfold left7; omega⟩
    rcases h5 j hj hmj with h | h
    · rcases List.mem_append.1 (hp.mem_iff.2 h) with h | h
      · exact .inl h
      · have : (j : Int) = x := by simpa using h
        exact .inr (.inl (by omega))
    · exact .inr (.inr h)
theorem InI.out {E : Nat → Nat → Prop} {r : Int} {n a : Nat} {P : Nat → Prop} {m : Nat → Bool} {l : List Int} (h : InI E r.toNat n a P m l) (h0 : 0 ≤ r) (h1 : r < n) (hP : ∀ b, E a b → P b) : OutI E r n m l := by
  obtain ⟨g1, g2, g3, g4⟩ := h
  refine .inr ⟨h0, h1, g1, fun j hj hm => ?_⟩
  rcases g2 j hj hm with h | rfl | h
  · exact .inl h
  · exact .inr fun b hb => g4 b (hP b hb)
  · exact .inr h
theorem OutI.done {rs : List PR} {ns : List PN} {r : Int} {m : Nat → Bool} (h : OutI (callE rs ns) r rs.length m []) (hE : ∀ a b, callE rs ns a b → b < rs.length) : memb m rs.length = reachL rs ns r := by
  unfold reachL
  rcases h with ⟨h1, -, h2⟩ | ⟨h1, h2, ⟨h3, h4, -, -⟩, h5⟩
  · rw [if_neg h1]
    have : memb m rs.length = memb (fun _ => false) rs.length := memb_congr h2
    rw [this]; unfold memb; simp
  · rw [if_pos ⟨h1, h2⟩]
    refine memb_congr (closed_is h3 (fun a b ha hm he => ?_) hE (by omega) h4)
    rcases h5 a ha hm with h | h
    · simp at h
    · exact h b he
/- 2. The walk. -/
/-- The nodes of a rule: where they lie, and what a call in them says. -/
def Done (ns : List PN) (f k : Nat) (b : Nat) : Prop := ∃ (t : Nat) (n : PN), t < k ∧ ns[f + t]? = some n ∧ n.op = 2 ∧ n.rule = (b : Int)
theorem Done.succ {ns : List PN} {f k b : Nat} {n : PN} (hn : ns[f + k]? = some n) (h : Done ns f (k + 1) b) : Done ns f k b ∨ (n.op = 2 ∧ n.rule = (b : Int)) := by
  obtain ⟨t, n', h1, h2, h3, h4⟩ := h
  by_cases e : t = k
  · subst e
    rw [hn] at h2
    obtain rfl := Option.some.inj h2
    exact .inr ⟨h3, h4⟩
  · exact .inl ⟨t, n', by omega, h2, h3, h4⟩
theorem expr7_ord {rv : Value} {na : Option Addr} {nc : Nat} {rs : List PR} {ns : List PN} {w : World} (hR : RulesIn w rv rs) (hN : NodesAt w (.slice na ns.length nc) ns) (hs : ns.length ≤ 1000000) (hc : ns.length ≤ nc) (hord : ordR ns rs (-1) = true) (a : Nat) (ha : a < rs.length) :
    ∃ (f L : Nat) (b : Option Addr), 0 < L ∧ f + L ≤ ns.length ∧ (∀ t : Nat, ownL rs (t : Int) = a ↔ f ≤ t ∧ t < f + L) ∧ NodesAt w (.slice b L (nc - f)) ((ns.drop f).take L) ∧ ∀ W, Below w.heap.size w W → Calls Try.prog 36 #[.agg #[rv, .slice na ns.length nc], .int .i64 (a : Int)] W fun e w' => e = .returned (.slice b L (nc - f)) ∧ Below W.heap.size W w' := by
  obtain ⟨x, hx⟩ : ∃ x, rs[a]? = some x := ⟨_, List.getElem?_eq_getElem ha⟩
  obtain ⟨⟨h1, h2, h3⟩, h4⟩ := own_span rs (-1) (by omega) hord a x hx
  obtain ⟨i, hi⟩ : ∃ i : Nat, x.root = i := ⟨x.root.toNat, by omega⟩
  rw [hi] at h1 h2 h3 h4
  obtain ⟨f, hf⟩ : ∃ f : Nat, fstL ns (i : Int) = f := ⟨(fstL ns i).toNat, by unfold fstL; omega⟩
  have hf' : exL ns (i : Int) + 1 = f := hf
  obtain ⟨nb, no, rfl, hP⟩ := hN.part f i (by omega) (by omega)
  refine ⟨f, i + 1 - f, _, by omega, by omega, fun t => ?_, hP, fun W hb => expr7_any rv nb no nc rs ns a i f x W (hR.kept hb (Nat.le_refl _)) (hN.kept hb (Nat.le_refl _)) hs hc hx hi (by omega) (by omega) hf (by omega)⟩
  have := h4 (t : Int) (by omega)
  omega
theorem mark_first (G M B Q n : Nat) (rv nv : Value) (E : Nat → Nat → Prop) (r : Int) (w W : World) (h : RQ G M B Q n rv nv (fun _ => false) [] w W) :
    Calls Try.prog 32 #[.int .i64 r, .pointer (some ⟨M, 0, none⟩), .pointer (some ⟨Q, 0, none⟩)] W fun e w' => (∃ v, e = .returned v) ∧ ∃ m l, RQ G M B Q n rv nv m l w w' ∧ OutI E r n m l := by
  by_cases hr : 0 ≤ r ∧ r < n
  · obtain ⟨k, rfl⟩ : ∃ k : Nat, r = k := ⟨r.toNat, by omega⟩
    have hk : k < n := by omega
    refine (mark_yes G M B Q n rv nv _ [] k w W h hk rfl (by simp)).mono fun e w' ⟨h1, l', h2, h3⟩ => ⟨h1, _, l', h2, .inr ⟨hr.1, hr.2, ?_, fun j hj hm => ?_⟩⟩
    · rw [show ((k : Int)).toNat = k by omega]
      have hc := cnt_ins (m := fun _ => false) hk rfl
      have hl := h3.length_eq
      refine ⟨ins_here _ k, fun j hj hm => ?_, fun x hx => ⟨k, by simpa using h3.mem_iff.1 hx, hk, ins_here _ k⟩, by simp at hl; omega⟩
      rcases ins_inv hm with h | rfl
      · cases h
      · exact .here
    · rcases ins_inv hm with h | rfl
      · cases h
      · exact .inl (h3.mem_iff.2 (by simp))
  · refine (mark_no G M B Q n rv nv _ [] r w W h (by omega)).mono fun e w' ⟨h1, h2⟩ => ?_
    subst h2
    exact ⟨h1, _, [], h, .inl ⟨hr, rfl, fun _ _ => rfl⟩⟩
theorem mark_in (G M B Q n : Nat) (rv nv : Value) (E : Nat → Nat → Prop) (r0 a k : Nat) (P P' : Nat → Prop) (m : Nat → Bool) (l : List Int) (w W : World) (h : RQ G M B Q n rv nv m l w W) (hI : InI E r0 n a P m l) (ha : a < n) (hk : k < n) (he : E a k) (hn : n ≤ 100000) (hP : ∀ b, P' b → P b ∨ b = k) :
    Calls Try.prog 32 #[.int .i64 (k : Int), .pointer (some ⟨M, 0, none⟩), .pointer (some ⟨Q, 0, none⟩)] W fun e w' => (∃ v, e = .returned v) ∧ ∃ m' l', RQ G M B Q n rv nv m' l' w w' ∧ InI E r0 n a P' m' l' ∧ left7 n m' l' ≤ left7 n m l := by
  have hc := cnt_le m n
  have hl := hI.1.2.2.2
  cases hm : m k with
  | true =>
    refine (mark_no G M B Q n rv nv m l k w W h (by right; right; exact ⟨by omega, by omega, by rw [show ((k : Int)).toNat = k by omega]; exact hm⟩)).mono fun e w' ⟨h1, h2⟩ => ?_
    subst h2
    exact ⟨h1, m, l, h, hI.same fun b hb => by rcases hP b hb with h | rfl; exact .inl h; exact .inr hm, Nat.le_refl _⟩
  | false =>
    refine (mark_yes G M B Q n rv nv m l k w W h hk hm (by omega)).mono fun e w' ⟨h1, l', h2, h3⟩ => ⟨h1, _, l', h2, ?_⟩
    exact hI.add ha hk he hm h3 hP
/-- An outer round's start and end, as a plain def. -/
def OutR (rs : List PR) (ns : List PN) (r : Int) (rv nv : Value) (w : World) (g : Nat) (W : World) : Prop :=
  ∃ m l, RQ w.heap.size (w.heap.size + 2) (w.heap.size + 1) (w.heap.size + 3) rs.length rv nv m l w W ∧ OutI (callE rs ns) r rs.length m l ∧ left7 rs.length m l ≤ g
theorem BolAt.grown {m : Nat → Bool} {n B base k : Nat} {v : Value} {xs : List Value} {w w1 w' : World} (h : BolAt m n B w1) (ho : w.ownsRow base 3 1 v k xs) (hb : Below w.heap.size w w1) (hg : w1.grownBy w' v.ownBlock) : BolAt m n B w' := by
  obtain ⟨cs, h1, h2⟩ := h
  exact ⟨cs, h1.grown hg (fun g e => by obtain ⟨c, fz, hc⟩ := Lib.ownsRow_kind (ownsRow_grown ho hb) g e; exact ⟨c, 3, fz, hc, by decide⟩), h2⟩
/-- An inner round's start and end. -/
def InR (rs : List PR) (ns : List PN) (r : Int) (rv nv : Value) (w : World) (a f L K : Nat) (c : Value) (W : World) : Prop :=
  ∃ (t : Nat) (m : Nat → Bool) (l : List Int), t ≤ L ∧ c = .int .i64 (t : Int) ∧ RQ w.heap.size (w.heap.size + 2) (w.heap.size + 1) (w.heap.size + 3) rs.length rv nv m l w W ∧ InI (callE rs ns) r.toNat rs.length a (Done ns f t) m l ∧ left7 rs.length m l ≤ K
theorem OutI.len {E : Nat → Nat → Prop} {r : Int} {n : Nat} {m : Nat → Bool} {l : List Int} (h : OutI E r n m l) : l.length ≤ n := by
  have := cnt_le m n
  rcases h with ⟨-, h, -⟩ | ⟨-, -, ⟨-, -, -, h⟩, -⟩
  · rw [h]; exact Nat.zero_le _
  · omega
theorem OutI.range {E : Nat → Nat → Prop} {r : Int} {n : Nat} {m : Nat → Bool} {l : List Int} (h : OutI E r n m l) (hl : 0 < l.length) : 0 ≤ r ∧ r < n := by
  rcases h with ⟨-, h, -⟩ | ⟨h1, h2, -⟩
  · rw [h] at hl; exact absurd hl (Nat.lt_irrefl _)
  · exact ⟨h1, h2⟩
set_option maxHeartbeats 8000000 in
set_option maxRecDepth 100000 in
theorem reach_any (rv : Value) (na : Option Addr) (nc : Nat) (rs : List PR) (ns : List PN) (r : Int) (w : World) (hR : RulesIn w rv rs) (hN : NodesAt w (.slice na ns.length nc) ns) (hs : ns.length ≤ 1000000) (hrs : rs.length ≤ 100000) (hc : ns.length ≤ nc) (hord : ordR ns rs (-1) = true) (hcall : ∀ (i : Nat) (n : PN), ns[i]? = some n → n.op = 2 → 0 ≤ n.rule ∧ n.rule < (rs.length : Int)) :
    Calls Try.prog 19 #[.agg #[rv, .slice na ns.length nc], .int .i64 r] w (CallersIs (reachL rs ns r) w) := by
  obtain ⟨-, ra, rc, rfl, -⟩ := id hR
  have hE : ∀ a b, callE rs ns a b → b < rs.length := fun a b ⟨i, n, h1, h2, _, h4⟩ => by have := hcall i n h1 h2; omega
  have hmk := fun w => run_make_row' (P := Try.prog) 60 4 (.bool false) 1 Try.underlying60 Try.infoBool rfl .i64 .i64 rs.length (by omega) (by omega) w
  have hmf : ∀ (fn : Fn) (first cap : Array Value) (w : World), (Instr.makeFunc fn first cap).run Try.prog w = .ok (.func fn first cap) w := fun _ _ _ _ => rfl
  have HX := Lib.hid (expr7_ord hR hN hs hc hord)
  obtain ⟨ii, hii, hz0, hz1, hz2⟩ := info_parts infoInt
  obtain ⟨W, hW⟩ : ∃ W, ((((w.alloc (.cells #[.slice ra rs.length rc, .slice na ns.length nc] 25)).alloc (.cells (madeCells #[.bool false] rs.length) 4)).alloc (.cells #[.slice (some ⟨w.heap.size + 1, 0, none⟩) rs.length rs.length] 60)).alloc (.cells #[.slice none 0 0] 62)) = W := ⟨_, rfl⟩
  have hrq : RQ w.heap.size (w.heap.size + 2) (w.heap.size + 1) (w.heap.size + 3) rs.length (.slice ra rs.length rc) (.slice na ns.length nc) (fun _ => false) [] w W := by
    refine ⟨by rw [← hW]; exact ((two_new _ _ _).alloc (by simp; omega) _).alloc (by simp; omega) _, ?_, ?_, ⟨madeCells #[.bool false] rs.length, ?_, fun j hj => ?_⟩, ⟨none, 0, ?_, World.ownsRow_nil _ _ _ _⟩, by omega, by omega⟩
    · rw [← hW]; repeat (first | (refine Bl.new' ?_; simp; done) | refine Bl.past ?_)
    · rw [← hW]; repeat (first | (refine Bl.new' ?_; simp; done) | refine Bl.past ?_)
    · rw [← hW]; repeat (first | (refine Bl.new' ?_; simp; done) | refine Bl.past ?_)
    · simp [madeCells, hj, Nat.mod_one]
    · rw [← hW]; repeat (first | (refine Bl.new' ?_; simp; done) | refine Bl.past ?_)
  have HC0 := Lib.hid (mark_first _ _ _ _ _ _ _ (callE rs ns) r w W hrq)
  clear hrq hR hN hord
  go_enter Try.func19, Try.ntmps19
  go_wp2_with (go_at_call 32; (with_reducible refine HC0.out.mono ?_); rintro e w1 ⟨⟨v1, rfl⟩, m1, l1, hq1, hi1⟩)
  clear hW hmk HC0
  go_loopg [] (left7 rs.length m1 l1) (fun g wr => OutR rs ns r (.slice ra rs.length rc) (.slice na ns.length nc) w g wr)
  case atStart => exact ⟨m1, l1, hq1, hi1, Nat.le_refl _⟩
  case round =>
    obtain ⟨m, l, hq, hi, hg⟩ := hrel
    clear hq1 hi1
    obtain ⟨a, c, hQ, -⟩ := id hq.q
    have b0 : wr.cell? ⟨w.heap.size + 3, 0, none⟩ = some (.slice a l.length c) := hQ.cell (o := 0) rfl
    have hG := hq.g
    have g0 : wr.cell? ⟨w.heap.size, 0, none⟩ = some (.slice ra rs.length rc) := hG.cell (o := 0) rfl
    have g1 : wr.cell? ⟨w.heap.size, 1, none⟩ = some (.slice na ns.length nc) := hG.cell (o := 1) rfl
    have HQ := Lib.hid hq
    have HI := Lib.hid hi
    have HG := Lib.hid hg
    clear hQ hG hq hi hg
    by_cases hl : l.length = 0
    · have k1 : ¬ (0 : Int) < (l.length : Int) := by omega
      obtain rfl : l = [] := List.length_eq_zero_iff.1 hl
      have HD := Lib.hid (HI.out.done hE)
      have r0 : wr.cell? ⟨w.heap.size + 2, 0, none⟩ = some (.slice (some ⟨w.heap.size + 1, 0, none⟩) rs.length rs.length) := HQ.out.mk0.cell (o := 0) rfl
      have hz := HQ.out.mk0.lt
      clear hE hcall
      go_wp2_with (go_at_call 34; (with_reducible refine (qlen_any _ _ _ _).mono ?_); rintro e w2 ⟨rfl, hw⟩; obtain rfl := hw.symm; clear hw)
      clear b0 g0 g1 r0 hz hl k1
      go_loopw [46, 11] (fun c u wq => ∃ k : Nat, k ≤ rs.length ∧ c = .int .i64 k ∧ wq.ownsRow w.heap.size 3 1 u (memb m k).length (natsV (memb m k)) ∧ Below w.heap.size w wq ∧ BolAt m rs.length (w.heap.size + 1) wq) (fun c _ _ => rs.length - (intOf c).toNat)
      case atStart => exact ⟨0, Nat.zero_le _, rfl, World.ownsRow_nil _ _ _ _, HQ.out.lo, HQ.out.b⟩
      case round =>
        obtain ⟨k, hk, rfl, ho, hb, hm⟩ := hrel
        obtain ⟨ua, uc, rfl⟩ := own_slice' ho
        by_cases hlt : k < rs.length
        · have k2 : (k : Int) < (rs.length : Int) := by omega
          have c0 := hm.cell hlt
          have HB := Lib.hid hb
          have HO := Lib.hid ho
          have HM := Lib.hid hm
          have HS := Lib.hid (memb_succ m k)
          have hle := Lib.hid (memb_len m k)
          clear ho hb hm
          cases hmk : m k with
          | false =>
            rw [hmk] at c0 HS
            clear hmk
            go_wp2
            go_roundw
            case rel => exact ⟨k + 1, by omega, by go_num, by rw [HS.out]; simpa using HO.out, HB.out, HM.out⟩
            case measure => simp [intOf]; omega
          | true =>
            rw [hmk] at c0 HS
            clear hmk
            go_wp2_with (at_builtin; refine wpList_append_own _ rfl _ _ 32 rfl w.heap.size 3 ii _ 1 8 Try.underlying32 hii hz0 hz1 hz2 rfl (by decide) _ (memb m k).length _ rfl (ownsRow_grown HO.out (one_new _ _)) ⟨_, 0, none⟩ 1 1 [.int .i64 (k : Int)] rfl rfl (cell_one_at (by simp) _ _) (by simp [Value.oneCell']) (by have := hle.out; unfold maxLen; omega) (by have := hle.out; omega) (by have := HB.out.size; simp; omega) ?_; intro v5 w5 hown' hgrow _; have HO5 := Lib.hid hown'; have HB5 := Lib.hid ((HB.out.trans ((one_new _ _).mono HB.out.size)).grown hgrow (Nat.le_trans HB.out.size (one_new _ _).size) (fun g e => (HO.out.lt g e).1)); have HM5 := Lib.hid ((HM.out.below (one_new _ _)).grown HO.out (one_new _ _) hgrow); clear hown' hgrow)
            go_roundw
            case rel => exact ⟨k + 1, by omega, by go_num, by rw [HS.out]; have := HO5.out; simpa [natsV_snoc] using this, HB5.out, HM5.out⟩
            case measure => simp [intOf]; omega
        · obtain rfl : k = rs.length := by omega
          have k2 : ¬ (rs.length : Int) < (rs.length : Int) := by omega
          have HO := Lib.hid ho
          have HB := Lib.hid hb
          clear ho hb hm
          go_wp2
          go_ret
          rw [← HD.out]
          exact ⟨_, rfl, HO.out, HB.out⟩
    · obtain ⟨k, hk⟩ : ∃ k, l.length = k + 1 := ⟨l.length - 1, by omega⟩
      have k1 : (0 : Int) < (l.length : Int) := by omega
      have hkb : k ≤ 900000 := by have := HI.out.len; omega
      have HRG := Lib.hid (HI.out.range (by omega))
      have HP := Lib.hid (hpop_any w.heap.size (w.heap.size + 3) k l wr HQ.out.q hk hkb)
      have hta := fun (x : Int) => q_assert x
      have HK := Lib.hid hk
      clear hl hk
      go_wp2_with (first
        | (go_at_call 34; (with_reducible refine (qlen_any _ _ _ _).mono ?_); rintro e w2 ⟨rfl, hw⟩; obtain rfl := hw.symm; clear hw)
        | (go_at_call 35; (with_reducible refine HP.out.mono ?_); rintro e w3 ⟨x, l3, rfl, hq3, hp3, hk3⟩; have HQ3 := Lib.hid (HQ.out.turn hk3 hq3); obtain ⟨a3, rfl, ha3, hi3, hlt3⟩ := HI.out.pop hp3; have HI3 := Lib.hid hi3; have HLT := Lib.hid hlt3; have h30 : w3.cell? ⟨w.heap.size, 0, none⟩ = some (.slice ra rs.length rc) := HQ3.out.g.cell (o := 0) rfl; have h31 : w3.cell? ⟨w.heap.size, 1, none⟩ = some (.slice na ns.length nc) := HQ3.out.g.cell (o := 1) rfl; obtain ⟨f, L, bx, hL0, hfL, hown, hpn, hcx⟩ := HX.out a3 ha3; have HCX := Lib.hid (hcx w3 HQ3.out.lo); have HPN := Lib.hid hpn; have HOW := Lib.hid hown; have HFL := Lib.hid hfL; have HA3 := Lib.hid ha3; clear hp3 hi3 hlt3 hk3 hq3 hown hpn hcx ha3)
        | (go_at_call 36; (with_reducible refine HCX.out.mono ?_); rintro e w4 ⟨rfl, hb4⟩; have HQ4 := Lib.hid (HQ3.out.below hb4); clear hb4))
      go_loopw [32] (fun c wq => InR rs ns r (.slice ra rs.length rc) (.slice na ns.length nc) w a3 f L (left7 rs.length m l3) c wq) (fun c _ => L - (intOf c).toNat)
      case atStart => exact ⟨0, m, l3, Nat.zero_le _, rfl, HQ4.out, HI3.out.same fun b ⟨t, _, h, _⟩ => absurd h (Nat.not_lt_zero _), Nat.le_refl _⟩
      case round =>
        obtain ⟨t, m', l', htL, rfl, hq', hi', hlf'⟩ := hrel
        have HQ5 := Lib.hid hq'
        have HI5 := Lib.hid hi'
        have HLF := Lib.hid hlf'
        clear hq' hi' hlf'
        by_cases hlt : t < L
        · have hft : f + t < ns.length := by have := HFL.out; omega
          obtain ⟨n, hn⟩ : ∃ n, ns[f + t]? = some n := ⟨_, List.getElem?_eq_getElem hft⟩
          have hn2 : ((ns.drop f).take L)[t]? = some n := by rw [List.getElem?_take_of_lt hlt, List.getElem?_drop]; exact hn
          obtain ⟨-, ax, cx, ex, hax⟩ := HPN.out
          injection ex with ex1 ex2 ex3
          subst ex1
          clear ex2 ex3
          rcases hax with h0 | ⟨nb, no, rfl, hca⟩
          · rw [h0] at hn2; simp at hn2
          obtain ⟨kv, c0, c1, c2, c3, c4, c5, c6, ci, -⟩ := (hca t n hn2).kept HQ5.out.lo (Nat.le_refl _)
          obtain ⟨ka, kc, rfl, -⟩ := ci
          have k2 : (t : Int) < (L : Int) := by omega
          have HN := Lib.hid hn
          have hcn := hcall (f + t) n hn
          have hLb : L ≤ 1000000 := by have := HFL.out; omega
          clear hca hn hn2 hft hfL hc hs hcall hE hL0
          have HRS := Lib.hid hrs
          clear hrs
          by_cases h2 : n.op = 2
          · rw [h2] at c0
            obtain ⟨h3, h4⟩ := hcn h2
            obtain ⟨q, hq⟩ : ∃ q : Nat, n.rule = q := ⟨n.rule.toNat, by omega⟩
            have hqn : q < rs.length := by omega
            have he : callE rs ns a3 q := ⟨f + t, n, HN.out, h2, (HOW.out (f + t)).2 ⟨by omega, by omega⟩, hq⟩
            have HM := Lib.hid (mark_in _ _ _ _ _ _ _ (callE rs ns) r.toNat a3 q (Done ns f t) (Done ns f (t + 1)) m' l' w _ (HQ5.out.below (one_new wr (.cells #[.int .i64 2, .slice ka n.kids.length kc, .int .i64 n.rule, .int .u64 n.s0, .int .u64 n.s1, .int .u64 n.s2, .int .u64 n.s3] 37))) HI5.out HA3.out hqn he HRS.out (fun b hb => by rcases hb.succ HN.out with h | ⟨-, h⟩; exact .inl h; exact .inr (by omega)))
            rw [hq] at c2 HM
            clear hcn he hq h2
            go_wp2_with (go_at_call 32; (with_reducible refine HM.out.mono ?_); rintro e w6 ⟨⟨v6, rfl⟩, m6, l6, hq6, hi6, hl6⟩; have HQ6 := Lib.hid hq6; have HI6 := Lib.hid hi6; have HL6 := Lib.hid hl6; clear hq6 hi6 hl6)
            go_roundw
            case rel => exact ⟨t + 1, m6, l6, hlt, by go_num, HQ6.out, HI6.out, Nat.le_trans HL6.out HLF.out⟩
            case measure => simp [intOf]; omega
          · have h2' : (n.op == 2) = false := by simpa using h2
            have HH := Lib.hid h2
            clear h2 hcn
            go_wp2
            go_roundw
            case rel => exact ⟨t + 1, m', l', hlt, by go_num, HQ5.out.below (one_new _ _), HI5.out.same (fun b hb => by rcases hb.succ HN.out with h | ⟨h, -⟩; exact .inl h; exact absurd h HH.out), HLF.out⟩
            case measure => simp [intOf]; omega
        · obtain rfl : t = L := by omega
          have k2 : ¬ (t : Int) < (t : Int) := by omega
          go_wp2
          go_roundg (left7 rs.length m' l')
          case measure => exact Nat.lt_of_lt_of_le (Nat.lt_of_le_of_lt HLF.out HLT.out) HG.out
          case rel => exact ⟨m', l', HQ5.out, HI5.out.out HRG.out.1 HRG.out.2 (fun b ⟨i, n, g1, g2, g3, g4⟩ => by have := (HOW.out i).1 g3; exact ⟨i - f, n, by omega, by rw [show f + (i - f) = i by omega]; exact g1, g2, g4⟩), Nat.le_refl _⟩
end
section
open Go.RowKit
/-- What the reference keeps in memory. -/
def RK (G B n : Nat) (rv nv : Value) (m : Nat → Bool) (w W : World) : Prop := Below w.heap.size w W ∧ Bl W G 25 #[rv, nv] ∧ BolAt m n B W ∧ w.heap.size ≤ B
section
variable {G B n : Nat} {rv nv : Value} {m : Nat → Bool} {w W W' : World}
theorem RK.lo (h : RK G B n rv nv m w W) : Below w.heap.size w W := h.1
theorem RK.g (h : RK G B n rv nv m w W) : Bl W G 25 #[rv, nv] := h.2.1
theorem RK.b (h : RK G B n rv nv m w W) : BolAt m n B W := h.2.2.1
theorem RK.below (h : RK G B n rv nv m w W) (hb : Below W.heap.size W W') : RK G B n rv nv m w W' := ⟨h.1.trans (hb.mono h.1.size), h.g.below hb, h.b.below hb, h.2.2.2⟩
theorem RK.put {k : Nat} (h : RK G B n rv nv m w W) (hk : k < n) : RK G B n rv nv (ins m k) w (W.setCell ⟨B, k, none⟩ (.bool true)) := by
  obtain ⟨h1, h2, h3, h4⟩ := h
  obtain ⟨cs, hB, -⟩ := id h3
  exact ⟨h1.setCell (p := ⟨B, k, none⟩) h4 _, h2.other (h2.ne hB (by decide)) _, h3.put hk, h4⟩
end
/-- The marks within a round: nothing that is not reached, all marks of before, and what the nodes so far say. -/
def InK (rs : List PR) (ns : List PN) (r0 : Nat) (m0 : Nat → Bool) (i : Nat) (m : Nat → Bool) : Prop :=
  (∀ j, j < rs.length → m j = true → Rch (callE rs ns) r0 j) ∧ (∀ j, j < rs.length → m0 j = true → m j = true) ∧
    ∀ (t : Nat) (n : PN) (b : Nat), t < i → ns[t]? = some n → n.op = 2 → m0 (ownL rs (t : Int)) = true → n.rule = (b : Int) → m b = true
theorem InK.pass {rs : List PR} {ns : List PN} {r0 i : Nat} {m0 m : Nat → Bool} {n : PN} (h : InK rs ns r0 m0 i m) (hn : ns[i]? = some n) (hp : n.op ≠ 2 ∨ (ownL rs (i : Int) < rs.length ∧ m (ownL rs (i : Int)) = false)) : InK rs ns r0 m0 (i + 1) m := by
  obtain ⟨h1, h2, h3⟩ := h
  refine ⟨h1, h2, fun t n' b ht hn' ho hm hb => ?_⟩
  by_cases e : t = i
  · subst e
    rw [hn] at hn'
    obtain rfl := Option.some.inj hn'
    rcases hp with hp | ⟨hl, hp⟩
    · exact absurd ho hp
    · rw [h2 _ hl hm] at hp; cases hp
  · exact h3 t n' b (by omega) hn' ho hm hb
theorem InK.mark {rs : List PR} {ns : List PN} {r0 i k : Nat} {m0 m : Nat → Bool} {n : PN} (h : InK rs ns r0 m0 i m) (hn : ns[i]? = some n) (ho : n.op = 2) (hl : ownL rs (i : Int) < rs.length) (hm : m (ownL rs (i : Int)) = true) (hk : n.rule = (k : Int)) : InK rs ns r0 m0 (i + 1) (ins m k) := by
  obtain ⟨h1, h2, h3⟩ := h
  refine ⟨fun j hj hi => ?_, fun j hj h => ins_keep (h2 j hj h), fun t n' b ht hn' ho' hm' hb => ?_⟩
  · rcases ins_inv hi with h | rfl
    · exact h1 j hj h
    · exact .call (h1 _ hl hm) ⟨i, n, hn, ho, rfl, hk⟩
  · by_cases e : t = i
    · subst e
      rw [hn] at hn'
      obtain rfl := Option.some.inj hn'
      have : b = k := by omega
      subst this
      exact ins_here m b
    · exact ins_keep (h3 t n' b (by omega) hn' ho' hm' hb)
/-- The marks between two rounds. -/
def OutK (rs : List PR) (ns : List PN) (r0 k : Nat) (m : Nat → Bool) : Prop :=
  m r0 = true ∧ (∀ j, j < rs.length → m j = true → Rch (callE rs ns) r0 j) ∧ ((∀ a b, a < rs.length → m a = true → callE rs ns a b → m b = true) ∨ k < cnt m rs.length)
theorem OutK.next {rs : List PR} {ns : List PN} {r0 k : Nat} {m m' : Nat → Bool} (h : OutK rs ns r0 k m) (hE : ∀ a b, callE rs ns a b → b < rs.length) (hr : r0 < rs.length) (hi : InK rs ns r0 m ns.length m') : OutK rs ns r0 (k + 1) m' := by
  obtain ⟨h1, h2, h3⟩ := h
  obtain ⟨g1, g2, g3⟩ := hi
  exact ⟨g2 r0 hr h1, g1, round_more h1 hE hr g1 g2 (fun a b _ hm ⟨t, n, e1, e2, e3, e4⟩ => g3 t n b (List.getElem?_eq_some_iff.1 e1).1 e1 e2 (by rw [e3]; exact hm) e4) h3⟩
theorem OutK.done {rs : List PR} {ns : List PN} {r0 : Nat} {r : Int} {m : Nat → Bool} (h : OutK rs ns r0 rs.length m) (hE : ∀ a b, callE rs ns a b → b < rs.length) (hr : r0 < rs.length) (e : r = (r0 : Int)) : memb m rs.length = reachL rs ns r := by
  subst e
  obtain ⟨h1, h2, h3⟩ := h
  unfold reachL
  rw [if_pos ⟨by omega, by omega⟩, show ((r0 : Int)).toNat = r0 by omega]
  exact memb_congr (closed_is h1 (round_all h3) hE hr h2)
theorem OutK.first {rs : List PR} {ns : List PN} {r0 : Nat} (hr : r0 < rs.length) : OutK rs ns r0 0 (ins (fun _ => false) r0) := by
  have hc := cnt_ins (m := fun _ => false) hr rfl
  refine ⟨ins_here _ _, fun j hj hm => ?_, .inr (by omega)⟩
  rcases ins_inv hm with h | rfl
  · cases h
  · exact .here
def RKR (rs : List PR) (ns : List PN) (r0 : Nat) (rv nv : Value) (w : World) (c : Value) (W : World) : Prop :=
  ∃ (k : Nat) (m : Nat → Bool), k ≤ rs.length ∧ c = .int .i64 (k : Int) ∧ RK w.heap.size (w.heap.size + 1) rs.length rv nv m w W ∧ OutK rs ns r0 k m
def RKI (rs : List PR) (ns : List PN) (r0 : Nat) (rv nv : Value) (w : World) (m0 : Nat → Bool) (c : Value) (W : World) : Prop :=
  ∃ (i : Nat) (m : Nat → Bool), i ≤ ns.length ∧ c = .int .i64 (i : Int) ∧ RK w.heap.size (w.heap.size + 1) rs.length rv nv m w W ∧ InK rs ns r0 m0 i m
set_option maxHeartbeats 8000000 in
set_option maxRecDepth 100000 in
theorem rreach_any (rv : Value) (na : Option Addr) (nc : Nat) (rs : List PR) (ns : List PN) (r : Int) (w : World) (hR : RulesIn w rv rs) (hN : NodesAt w (.slice na ns.length nc) ns) (hs : ns.length ≤ 1000000) (hrs : rs.length ≤ 100000) (hord : ordR ns rs (-1) = true) (hcall : ∀ (i : Nat) (n : PN), ns[i]? = some n → n.op = 2 → 0 ≤ n.rule ∧ n.rule < (rs.length : Int)) :
    Calls Try.prog 20 #[.agg #[rv, .slice na ns.length nc], .int .i64 r] w (CallersIs (reachL rs ns r) w) := by
  obtain ⟨-, ra, rc, rfl, -⟩ := id hR
  by_cases hr0 : r < 0
  · have e : reachL rs ns r = [] := by unfold reachL; rw [if_neg (by omega)]
    rw [e]
    go_enter Try.func20, Try.ntmps20
    go_wp2
    go_ret
    exact ⟨_, rfl, World.ownsRow_nil _ _ _ _, one_new _ _⟩
  by_cases hr1 : (rs.length : Int) ≤ r
  · have e : reachL rs ns r = [] := by unfold reachL; rw [if_neg (by omega)]
    rw [e]
    go_enter Try.func20, Try.ntmps20
    go_wp2
    go_ret
    exact ⟨_, rfl, World.ownsRow_nil _ _ _ _, one_new _ _⟩
  obtain ⟨r0, rfl⟩ : ∃ r0 : Nat, r = r0 := ⟨r.toNat, by omega⟩
  have hr : r0 < rs.length := by omega
  have hE : ∀ a b, callE rs ns a b → b < rs.length := fun a b ⟨i, n, h1, h2, _, h4⟩ => by have := hcall i n h1 h2; omega
  have HE := Lib.hid hE
  have HOW := Lib.hid (fun (i : Nat) (hi : i < ns.length) => (ownL_ord rs (-1) (by omega) hord (i : Int) (by omega) (by omega)).1)
  have HRO := Lib.hid (fun (i : Nat) (hi : i < ns.length) (W : World) (hb : Below w.heap.size w W) => rowner_any (.slice ra rs.length rc) na ns.length nc rs (i : Int) W (hR.kept hb (Nat.le_refl _)) (-1) (ordR_up rs (-1) hord) (HOW.out i hi))
  have HN := Lib.hid hN
  have HCL := Lib.hid hcall
  have hmk := fun w => run_make_row' (P := Try.prog) 60 4 (.bool false) 1 Try.underlying60 Try.infoBool rfl .i64 .i64 rs.length (by omega) (by omega) w
  obtain ⟨ii, hii, hz0, hz1, hz2⟩ := info_parts infoInt
  have k0 : (r0 : Int) < (rs.length : Int) := by omega
  have k1 : ¬ (r0 : Int) < 0 := by omega
  have k2 : ¬ (rs.length : Int) ≤ (r0 : Int) := by omega
  obtain ⟨W, hW⟩ : ∃ W, ((w.alloc (.cells #[.slice ra rs.length rc, .slice na ns.length nc] 25)).alloc (.cells (madeCells #[.bool false] rs.length) 4)) = W := ⟨_, rfl⟩
  have hrk : RK w.heap.size (w.heap.size + 1) rs.length (.slice ra rs.length rc) (.slice na ns.length nc) (fun _ => false) w W := by
    refine ⟨by rw [← hW]; exact two_new _ _ _, by rw [← hW]; exact Bl.past (Bl.new w _ _), ⟨madeCells #[.bool false] rs.length, by rw [← hW]; exact Bl.new' (by simp), fun j hj => by simp [madeCells, hj, Nat.mod_one]⟩, by omega⟩
  have m0 := hrk.b.cell hr
  have z0 := hrk.b.free r0
  have HK := Lib.hid (hrk.put hr)
  clear hrk hR hN hord hcall hE hr0 hr1
  go_enter Try.func20, Try.ntmps20
  go_wp2
  clear hW hmk m0 z0
  go_loopw [6] (fun c wr => RKR rs ns r0 (.slice ra rs.length rc) (.slice na ns.length nc) w c wr) (fun c _ => rs.length - (intOf c).toNat)
  case atStart => exact ⟨0, _, Nat.zero_le _, rfl, HK.out, OutK.first hr⟩
  case round =>
    obtain ⟨k, m, hk, rfl, hrk, hok⟩ := hrel
    have g0 : wr.cell? ⟨w.heap.size, 0, none⟩ = some (.slice ra rs.length rc) := hrk.g.cell (o := 0) rfl
    have g1 : wr.cell? ⟨w.heap.size, 1, none⟩ = some (.slice na ns.length nc) := hrk.g.cell (o := 1) rfl
    have HK1 := Lib.hid hrk
    have HO1 := Lib.hid hok
    clear hrk hok HK
    by_cases hlt : k < rs.length
    · have j1 : (k : Int) < (rs.length : Int) := by omega
      go_wp2
      go_loopw [7] (fun c wr => RKI rs ns r0 (.slice ra rs.length rc) (.slice na ns.length nc) w m c wr) (fun c _ => ns.length - (intOf c).toNat)
      case atStart => exact ⟨0, m, Nat.zero_le _, rfl, HK1.out, HO1.out.2.1, fun _ _ h => h, fun t _ _ h => absurd h (Nat.not_lt_zero _)⟩
      case round =>
        clear g0 g1
        obtain ⟨i, m', hi, rfl, hrk, hik⟩ := hrel
        have g0 : wr.cell? ⟨w.heap.size, 0, none⟩ = some (.slice ra rs.length rc) := hrk.g.cell (o := 0) rfl
        have g1 : wr.cell? ⟨w.heap.size, 1, none⟩ = some (.slice na ns.length nc) := hrk.g.cell (o := 1) rfl
        have HK2 := Lib.hid hrk
        have HI2 := Lib.hid hik
        clear hrk hik
        by_cases hil : i < ns.length
        · have j2 : (i : Int) < (ns.length : Int) := by omega
          obtain ⟨n, hn⟩ : ∃ n, ns[i]? = some n := ⟨_, List.getElem?_eq_getElem hil⟩
          obtain ⟨-, ax, cx, ex, hax⟩ := HN.out
          injection ex with ex1 ex2 ex3
          subst ex1
          clear ex2 ex3
          rcases hax with h0 | ⟨nb, no, rfl, hca⟩
          · rw [h0] at hil; exact absurd hil (Nat.not_lt_zero _)
          have hcc := hca i n hn
          obtain ⟨kv, c0, -, c2, -⟩ := hcc.kept HK2.out.lo (Nat.le_refl _)
          have lb : nb < w.heap.size := by obtain ⟨_, c, -⟩ := hcc; exact lt_of_cell c
          have HNN := Lib.hid hn
          have hol := HOW.out i hil
          obtain ⟨a, ha⟩ : ∃ a, ownL rs (i : Int) = a := ⟨_, rfl⟩
          have HC := Lib.hid (HRO.out i hil wr HK2.out.lo)
          rw [ha] at HC hol
          have HA := Lib.hid ha
          have HCN := Lib.hid (HCL.out i n hn)
          clear hca hcc hn ha
          by_cases h2 : n.op = 2
          · rw [h2] at c0
            have H2 := Lib.hid h2
            obtain ⟨h3, h4⟩ := HCN.out h2
            obtain ⟨q, hq⟩ : ∃ q : Nat, n.rule = q := ⟨n.rule.toNat, by omega⟩
            have hqn : q < rs.length := by omega
            rw [hq] at c2
            have HQ := Lib.hid hq
            have j3 : (q : Int) < (rs.length : Int) := by omega
            have j4 : (a : Int) < (rs.length : Int) := by omega
            clear h2 h3 h4 hq
            cases hm : m' a with
            | false =>
              have HM := Lib.hid hm
              go_wp2_with (go_at_call 23; (with_reducible refine HC.out.mono ?_); rintro e w3 ⟨rfl, hb3⟩; have HK3 := Lib.hid (HK2.out.below hb3); have b3 := HK3.out.b.cell hol; rw [HM.out] at b3; clear hb3)
              go_roundw
              case rel => exact ⟨i + 1, m', hil, by go_num, HK3.out, HI2.out.pass HNN.out (.inr (by rw [HA.out]; exact ⟨hol, HM.out⟩))⟩
              case measure => simp [intOf]; omega
            | true =>
              have HM := Lib.hid hm
              go_wp2_with (go_at_call 23; (with_reducible refine HC.out.mono ?_); rintro e w3 ⟨rfl, hb3⟩; have HK3 := Lib.hid (HK2.out.below hb3); have b3 := HK3.out.b.cell hol; rw [HM.out] at b3; have b4 := HK3.out.b.cell hqn; have z4 := HK3.out.b.free q; have g30 : w3.cell? ⟨w.heap.size, 0, none⟩ = some (.slice ra rs.length rc) := HK3.out.g.cell (o := 0) rfl; have g31 : w3.cell? ⟨w.heap.size, 1, none⟩ = some (.slice (some ⟨nb, no, none⟩) ns.length nc) := HK3.out.g.cell (o := 1) rfl; have c3 : w3.cell? ⟨nb, no + i * 7 + 2, none⟩ = some (.int .i64 (q : Int)) := (by rw [(bcell hb3).1 _ _ (lt_of_cell c2)]; exact c2); clear hb3)
              go_roundw
              case rel => exact ⟨i + 1, _, hil, by go_num, HK3.out.put hqn, HI2.out.mark HNN.out H2.out (by rw [HA.out]; exact hol) (by rw [HA.out]; exact HM.out) HQ.out⟩
              case measure => simp [intOf]; omega
          · have h2' : (n.op == 2) = false := by simpa using h2
            have HH := Lib.hid h2
            clear h2
            go_wp2
            go_roundw
            case rel => exact ⟨i + 1, m', hil, by go_num, HK2.out, HI2.out.pass HNN.out (.inl HH.out)⟩
            case measure => simp [intOf]; omega
        · obtain rfl : i = ns.length := by omega
          have j2 : ¬ (ns.length : Int) < (ns.length : Int) := by omega
          go_wp2
          go_roundw
          case rel => exact ⟨k + 1, m', hlt, by go_num, HK2.out, HO1.out.next HE.out hr HI2.out⟩
          case measure => simp [intOf]; omega
    · obtain rfl : k = rs.length := by omega
      have j1 : ¬ (rs.length : Int) < (rs.length : Int) := by omega
      have HD := Lib.hid (HO1.out.done HE.out hr rfl)
      go_wp2
      go_loopw [9, 8] (fun c u wq => ∃ k : Nat, k ≤ rs.length ∧ c = .int .i64 k ∧ wq.ownsRow w.heap.size 3 1 u (memb m k).length (natsV (memb m k)) ∧ Below w.heap.size w wq ∧ BolAt m rs.length (w.heap.size + 1) wq) (fun c _ _ => rs.length - (intOf c).toNat)
      case atStart => exact ⟨0, Nat.zero_le _, rfl, World.ownsRow_nil _ _ _ _, HK1.out.lo, HK1.out.b⟩
      case round =>
        clear g0 g1
        obtain ⟨k, hk, rfl, ho, hb, hm⟩ := hrel
        obtain ⟨ua, uc, rfl⟩ := own_slice' ho
        by_cases hlt : k < rs.length
        · have j2 : (k : Int) < (rs.length : Int) := by omega
          have c0 := hm.cell hlt
          have HB := Lib.hid hb
          have HO := Lib.hid ho
          have HM := Lib.hid hm
          have HS := Lib.hid (memb_succ m k)
          have hle := Lib.hid (memb_len m k)
          clear ho hb hm
          cases hmk : m k with
          | false =>
            rw [hmk] at c0 HS
            clear hmk
            go_wp2
            go_roundw
            case rel => exact ⟨k + 1, by omega, by go_num, by rw [HS.out]; simpa using HO.out, HB.out, HM.out⟩
            case measure => simp [intOf]; omega
          | true =>
            rw [hmk] at c0 HS
            clear hmk
            go_wp2_with (at_builtin; refine wpList_append_own _ rfl _ _ 32 rfl w.heap.size 3 ii _ 1 8 Try.underlying32 hii hz0 hz1 hz2 rfl (by decide) _ (memb m k).length _ rfl (ownsRow_grown HO.out (one_new _ _)) ⟨_, 0, none⟩ 1 1 [.int .i64 (k : Int)] rfl rfl (cell_one_at (by simp) _ _) (by simp [Value.oneCell']) (by have := hle.out; unfold maxLen; omega) (by have := hle.out; omega) (by have := HB.out.size; simp; omega) ?_; intro v5 w5 hown' hgrow _; have HO5 := Lib.hid hown'; have HB5 := Lib.hid ((HB.out.trans ((one_new _ _).mono HB.out.size)).grown hgrow (Nat.le_trans HB.out.size (one_new _ _).size) (fun g e => (HO.out.lt g e).1)); have HM5 := Lib.hid ((HM.out.below (one_new _ _)).grown HO.out (one_new _ _) hgrow); clear hown' hgrow)
            go_roundw
            case rel => exact ⟨k + 1, by omega, by go_num, by rw [HS.out]; have := HO5.out; simpa [natsV_snoc] using this, HB5.out, HM5.out⟩
            case measure => simp [intOf]; omega
        · obtain rfl : k = rs.length := by omega
          have j2 : ¬ (rs.length : Int) < (rs.length : Int) := by omega
          have HO := Lib.hid ho
          have HB := Lib.hid hb
          clear ho hb hm
          go_wp2
          go_ret
          rw [← HD.out]
          exact ⟨_, rfl, HO.out, HB.out⟩
end
end Go.Proofs.Ytklimoepkifnhaa
