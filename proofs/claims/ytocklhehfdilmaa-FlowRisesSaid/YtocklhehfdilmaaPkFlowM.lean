/- flow: the queue with its marks: add, take, newQueue. -/
import Derived.Test.YtocklhehfdilmaaPkFlowH
import Derived.Test.YtocklhehfdilmaaPkMeasReach
namespace Go.Proofs.Ytocklhehfdilmaa
open Go.RowKit
/- 1. What holds of marks and queue. -/
def delN (m : Nat → Bool) (k j : Nat) : Bool := m j && !(j == k)
theorem cnt_del (m : Nat → Bool) (k : Nat) : ∀ n, cnt m n ≤ cnt (delN m k) n + 1
  | 0 => Nat.zero_le _
  | n + 1 => by
    show cnt m n + (m n).toNat ≤ cnt (delN m k) n + (delN m k n).toNat + 1
    by_cases e : n = k
    · have hle : cnt m n = cnt (delN m k) n := by
        have h1 : cnt m n ≤ cnt (delN m k) n := cnt_mono n fun i hi hm => by unfold delN; rw [hm]; have : (i == k) = false := by simp; omega
                                                                             rw [this]; rfl
        have h2 : cnt (delN m k) n ≤ cnt m n := cnt_mono n fun i hi hm => by unfold delN at hm; rw [Bool.and_eq_true] at hm; exact hm.1
        omega
      have := Bool.toNat_le (m n)
      omega
    · have h1 := cnt_del m k n
      have : delN m k n = m n := by unfold delN; have : (n == k) = false := by simp; omega
                                    rw [this]; simp
      rw [this]; omega
/-- The queue holds each number that is marked, once. -/
structure QI (n : Nat) (m : Nat → Bool) (l : List Int) : Prop where
  nd : l.Nodup
  mem : ∀ x, x ∈ l ↔ ∃ j : Nat, x = (j : Int) ∧ j < n ∧ m j = true
  len : l.length ≤ cnt m n
theorem QI.le {n : Nat} {m : Nat → Bool} {l : List Int} (h : QI n m l) : l.length ≤ n := Nat.le_trans h.len (cnt_le m n)
theorem QI.add {n k : Nat} {m : Nat → Bool} {l l' : List Int} (h : QI n m l) (hk : k < n) (hm : m k = false) (hp : l'.Perm (l ++ [(k : Int)])) : QI n (ins m k) l' := by
  have hc := cnt_ins hk hm
  have hl := hp.length_eq
  rw [List.length_append] at hl
  refine ⟨hp.nodup_iff.2 (List.nodup_append.2 ⟨h.nd, by simp, fun a ha b hb => ?_⟩), fun x => ?_, by have := h.len; simp at hl; omega⟩
  · rintro rfl
    obtain ⟨j, e, -, hj⟩ := (h.mem a).1 ha
    have : a = (k : Int) := by simpa using hb
    have : j = k := by omega
    subst this
    rw [hm] at hj; cases hj
  · rw [hp.mem_iff, List.mem_append, h.mem]
    constructor
    · rintro (⟨j, e, hj, hmj⟩ | hx)
      · exact ⟨j, e, hj, ins_keep hmj⟩
      · exact ⟨k, by simpa using hx, hk, ins_here m k⟩
    · rintro ⟨j, e, hj, hmj⟩
      rcases ins_inv hmj with h | rfl
      · exact .inl ⟨j, e, hj, h⟩
      · exact .inr (by simp [e])
theorem QI.pop {n : Nat} {m : Nat → Bool} {l l1 : List Int} {x : Int} (h : QI n m l) (hp : (l1 ++ [x]).Perm l) : ∃ k : Nat, x = (k : Int) ∧ k < n ∧ m k = true ∧ QI n (delN m k) l1 := by
  obtain ⟨k, e, hk, hm⟩ := (h.mem x).1 (hp.mem_iff.1 (List.mem_append_right _ (by simp)))
  have hnd := hp.nodup_iff.2 h.nd
  obtain ⟨n1, -, n3⟩ := List.nodup_append.1 hnd
  have hl := hp.length_eq
  rw [List.length_append] at hl
  refine ⟨k, e, hk, hm, n1, fun y => ?_, by have := h.len; have := cnt_del m k n; simp at hl; omega⟩
  constructor
  · intro hy
    obtain ⟨j, ej, hj, hmj⟩ := (h.mem y).1 (hp.mem_iff.1 (List.mem_append_left _ hy))
    refine ⟨j, ej, hj, ?_⟩
    have hne : j ≠ k := by
      rintro rfl
      exact n3 y hy x (by simp) (by rw [ej, e])
    unfold delN; rw [hmj]; have : (j == k) = false := by simp; omega
    rw [this]; rfl
  · rintro ⟨j, ej, hj, hmj⟩
    unfold delN at hmj
    rw [Bool.and_eq_true] at hmj
    have hy := hp.mem_iff.2 ((h.mem y).2 ⟨j, ej, hj, hmj.1⟩)
    rcases List.mem_append.1 hy with hy | hy
    · exact hy
    · exfalso
      have : y = x := by simpa using hy
      have : j = k := by omega
      subst this
      simp at hmj
theorem QI.nil (n : Nat) : QI n (fun _ => false) [] := ⟨by simp, fun x => by simp, Nat.zero_le _⟩
/- 2. In memory. -/
theorem BolAt.del {m : Nat → Bool} {n B k : Nat} {w : World} (h : BolAt m n B w) (hk : k < n) : BolAt (delN m k) n B (w.setCell ⟨B, k, none⟩ (.bool false)) := by
  obtain ⟨cs, h1, h2⟩ := h
  refine ⟨_, h1.set' _, fun j hj => ?_⟩
  rw [Array.getElem?_setIfInBounds]
  unfold delN
  by_cases e : k = j
  · subst e
    have := (Array.getElem?_eq_some_iff.1 (h2 k hk)).1
    rw [if_pos rfl, if_pos this]; simp
  · rw [if_neg e, h2 j hj]
    have : (j == k) = false := by simp; omega
    rw [this]; simp
theorem Kp.wide {base x y : Nat} {t : TypeId} {w w' : World} (h : Kp base x x t w w') : Kp base x y t w w' := ⟨h.os, h.tape, h.output, h.size, fun k hk hx _ hc => h.block k hk hx hx hc⟩
/-- The queue at Q with its marks at H. -/
structure Qs (base n Q H : Nat) (m : Nat → Bool) (l : List Int) (W : World) : Prop where
  q : QF base Q (.slice (some ⟨H, 0, none⟩) n n) l W
  b : BolAt m n H W
  bq : base ≤ Q
  bh : base ≤ H
  i : QI n m l
section
variable {base n Q H : Nat} {m : Nat → Bool} {l : List Int} {W W' : World}
theorem Qs.below (h : Qs base n Q H m l W) (hb : Below W.heap.size W W') : Qs base n Q H m l W' := ⟨h.q.below hb, h.b.below hb, h.bq, h.bh, h.i⟩
theorem Qs.cell1 (h : Qs base n Q H m l W) : W.cell? ⟨Q, 1, none⟩ = some (.slice (some ⟨H, 0, none⟩) n n) := by
  obtain ⟨a, c, hB, -⟩ := h.q; exact hB.cell (o := 1) rfl
theorem Qs.sz (h : Qs base n Q H m l W) : base ≤ W.heap.size := Nat.le_of_lt (Nat.lt_of_le_of_lt h.bq h.q.lt)
/-- Marks are stored beside the queue. -/
theorem QF.mark {hv v : Value} {k : Nat} {cs : Array Value} (h : QF base Q hv l W) (hB : Bl W H 4 cs) : QF base Q hv l (W.setCell ⟨H, k, none⟩ v) := by
  obtain ⟨a, c, hQ, hO⟩ := h
  exact ⟨a, c, hQ.other (hQ.ne hB (by decide)) _, ownsRow_setCell_other hO (a := ⟨H, k, none⟩) (row_ne hO ⟨_, _, hB⟩ (by decide)) _⟩
/-- The marks through what is done to the queue. -/
theorem BolAt.kp {k1 : Nat} (h : BolAt m n H W) (hq : QF base Q (.slice (some ⟨H, 0, none⟩) n n) l W) (hk : Kp base Q k1 3 W W') (h1 : k1 = Q) : BolAt m n H W' := by
  subst h1
  obtain ⟨a, c, hQ, hO⟩ := hq
  obtain ⟨cs, hB, hc⟩ := h
  exact ⟨cs, hk.bl hB (hB.ne hQ (by decide)) (hB.ne hQ (by decide)) (by decide), hc⟩
end
set_option maxHeartbeats 4000000 in
set_option maxRecDepth 100000 in
/-- A number is put into the queue, unless it is there. -/
theorem fadd_any (base n Q H k : Nat) (m : Nat → Bool) (l : List Int) (W : World) (h : Qs base n Q H m l W) (hk : k < n) (hn : n ≤ 100000) :
    Calls Try.prog 24 #[.pointer (some ⟨Q, 0, none⟩), .int .i64 (k : Int)] W fun e w' => (∃ v, e = .returned v) ∧ ∃ l', Qs base n Q H (ins m k) l' w' ∧ Kp base Q H 3 W w' := by
  have c1 := h.cell1
  have c2 := h.b.cell hk
  have lq := h.q.lt
  have k1 : (k : Int) < (n : Int) := by omega
  have hl := h.i.le
  cases hm : m k with
  | true =>
    rw [hm] at c2
    have H1 := Lib.hid h
    clear h
    go_enter Try.func24, Try.ntmps24
    go_wp2
    go_end0
    refine ⟨⟨_, rfl⟩, l, ?_, Kp.of_below (Below.refl _ _)⟩
    have he : ∀ j, ins m k j = m j := fun j => by
      unfold ins
      by_cases e : j = k
      · subst e; rw [hm]; rfl
      · have : (j == k) = false := by simp; omega
        rw [this]; simp
    have : ins m k = m := funext he
    rw [this]; exact H1.out
  | false =>
    rw [hm] at c2
    have z := h.b.free k
    obtain ⟨cs, hB, -⟩ := id h.b
    have lh := hB.lt
    have hQ1 := h.q.mark (k := k) (v := .bool true) hB
    have hB1 := h.b.put hk
    have hk1 : Kp base Q H 3 W (W.setCell ⟨H, k, none⟩ (.bool true)) := Kp.set hB (.inr (.inl rfl)) _
    have HC := Lib.hid (fhpush_any base Q (.slice (some ⟨H, 0, none⟩) n n) l (k : Int) _ hQ1 (by omega) (by have := h.sz; simp [World.setCell]; exact this))
    have H1 := Lib.hid h
    have HQ1 := Lib.hid hQ1
    have HB1 := Lib.hid hB1
    have HK1 := Lib.hid hk1
    clear h hB hQ1 hB1 hk1
    go_enter Try.func24, Try.ntmps24
    go_wp2_with (go_at_call 33; (with_reducible refine HC.out.mono ?_); rintro e w2 ⟨⟨v2, rfl⟩, l2, hq2, hp2, hk2⟩; have HQ2 := Lib.hid hq2; have HP2 := Lib.hid hp2; have HK2 := Lib.hid hk2; clear hq2 hp2 hk2)
    go_end0
    exact ⟨⟨_, rfl⟩, l2, ⟨HQ2.out, HB1.out.kp HQ1.out HK2.out rfl, H1.out.bq, H1.out.bh, H1.out.i.add hk hm HP2.out⟩, HK1.out.trans HK2.out.wide⟩
/-- What take does. -/
def TakeIs (base n Q H : Nat) (m : Nat → Bool) (l : List Int) (W : World) (e : Ending) (w' : World) : Prop := ∃ (k : Nat) (l' : List Int), e = .returned (.int .i64 (k : Int)) ∧ k < n ∧ m k = true ∧ l'.length + 1 = l.length ∧ Qs base n Q H (delN m k) l' w' ∧ Kp base Q H 3 W w'
set_option maxHeartbeats 4000000 in
set_option maxRecDepth 100000 in
theorem ftake_any (base n Q H : Nat) (m : Nat → Bool) (l : List Int) (W : World) (h : Qs base n Q H m l W) (hl : 0 < l.length) (hn : n ≤ 100000) :
    Calls Try.prog 25 #[.pointer (some ⟨Q, 0, none⟩)] W (TakeIs base n Q H m l W) := by
  obtain ⟨p, hp⟩ : ∃ p, l.length = p + 1 := ⟨l.length - 1, by omega⟩
  have hle := h.i.le
  have hta := q_assert
  have HC := Lib.hid (fhpop_any base Q p (.slice (some ⟨H, 0, none⟩) n n) l W h.q hp (by omega))
  have H1 := Lib.hid h
  clear h
  go_enter Try.func25, Try.ntmps25
  go_wp2_with (go_at_call 34; (with_reducible refine HC.out.mono ?_); rintro e w2 ⟨x, l2, rfl, hq2, hp2, hk2⟩; obtain ⟨k, rfl, hk, hm, hi⟩ := H1.out.i.pop hp2; have hb2 := H1.out.b.kp H1.out.q hk2 rfl; have c1 : w2.cell? ⟨Q, 1, none⟩ = some (.slice (some ⟨H, 0, none⟩) n n) := (by obtain ⟨a, c, hB, -⟩ := hq2; exact hB.cell (o := 1) rfl); have c2 := hb2.cell hk; rw [hm] at c2; have z := hb2.free k; have lq := hq2.lt; have k1 : (k : Int) < (n : Int) := (by omega); have HQ2 := Lib.hid hq2; have HP2 := Lib.hid hp2; have HK2 := Lib.hid hk2; have HB2 := Lib.hid hb2; have HI := Lib.hid hi; have HM := Lib.hid hm; have HKN := Lib.hid hk; clear hq2 hp2 hk2 hb2 hi hm)
  go_ret
  obtain ⟨cs, hB, -⟩ := id HB2.out
  have hlen := HP2.out.length_eq
  rw [List.length_append] at hlen
  exact ⟨k, l2, rfl, HKN.out, HM.out, by simpa using hlen, ⟨HQ2.out.mark hB, HB2.out.del HKN.out, H1.out.bq, H1.out.bh, HI.out⟩, HK2.out.wide.trans (Kp.set hB (.inr (.inl rfl)) _)⟩
end Go.Proofs.Ytocklhehfdilmaa
