/- Rows of rules with items; the reference's Few and Same; rules and back. -/
import Derived.Test.YtnebdnonkefloaaBuildCmp
import Derived.Test.YtnebdnonkefloaaBuildOne
import Derived.Deep.RegionLaw
namespace Go.Proofs.Ytnebdnonkefloaa
section
open Go.RowKit
def QRow (base : Nat) (tr ti : TypeId) (v : Value) (l : List PQ) (vs : List Value) (w : World) : Prop := vs.length = l.length ∧ w.ownsRow base tr 2 v l.length (rulesQ (l.zip vs)) ∧
  ∀ (j : Nat) (q : PQ) (u : Value), l[j]? = some q → vs[j]? = some u → w.ownsRow base ti 7 u q.items.length (itemsC q.items)
theorem QRow.nil (base : Nat) (tr ti : TypeId) (w : World) : QRow base tr ti (.slice none 0 0) [] [] w := ⟨rfl, World.ownsRow_nil _ _ _ _, fun j n q h _ => by simp at h⟩
theorem QRow.grown {base : Nat} {tr ti : TypeId} {v : Value} {l : List PQ} {vs : List Value} {w w' : World} (h : QRow base tr ti v l vs w) (hb : Below w.heap.size w w') : QRow base tr ti v l vs w' :=
  ⟨h.1, ownsRow_grown h.2.1 hb, fun j n q a b => ownsRow_grown (h.2.2 j n q a b) hb⟩
theorem QRow.step {base : Nat} {tr ti : TypeId} {v v' u : Value} {l : List PQ} {q : PQ} {vs : List Value} {w w' : World} (h : QRow base tr ti v l vs w) (hne : ti ≠ tr) (hu : w.ownsRow base ti 7 u q.items.length (itemsC q.items))
    (hown : w'.ownsRow base tr 2 v' (l.length + 1) (rulesQ (l.zip vs) ++ [.string q.name, u])) (hg : w.grownBy w' v.ownBlock) : QRow base tr ti v' (l ++ [q]) (vs ++ [u]) w' := by
  have kind : ∀ g, v.ownBlock = some g → ∃ c fz, w.heap[g]? = some (.cells c tr fz) := fun g hv => Lib.ownsRow_kind h.2.1 g hv
  refine ⟨by rw [List.length_append, List.length_append, h.1]; rfl, ?_, fun j m x a b => ?_⟩
  · rw [List.zip_append h.1.symm, rulesQ_append, List.length_append]
    simpa [rulesQ, ruleQ] using hown
  · rcases Nat.lt_or_ge j l.length with hj | hj
    · rw [List.getElem?_append_left hj] at a
      rw [List.getElem?_append_left (by rw [h.1]; exact hj)] at b
      exact own_kept' (h.2.2 j m x a b) hg kind hne
    · have hje : j = l.length := by
        have := (List.getElem?_eq_some_iff.1 a).1
        simp at this; omega
      subst hje
      rw [List.getElem?_append_right (Nat.le_refl _), Nat.sub_self] at a
      rw [List.getElem?_append_right (by rw [h.1]; exact Nat.le_refl _), h.1, Nat.sub_self] at b
      obtain rfl := Option.some.inj a
      obtain rfl := Option.some.inj b
      exact own_kept' hu hg kind hne
theorem QRow.qs {base : Nat} {tr ti : TypeId} {v : Value} {l : List PQ} {vs : List Value} {w : World} (h : QRow base tr ti v l vs w) (hl : l.length ≤ maxLen) (hi : ∀ q, q ∈ l → q.items.length ≤ maxLen) : QsAt w v l :=
  ⟨hl, vs, h.1, CellsAt.of_own h.2.1, fun j q u a b => ⟨hi q (List.mem_of_getElem? a), CellsAt.of_own (h.2.2 j q u a b)⟩⟩
theorem QRow.mono {base base' : Nat} {tr ti : TypeId} {v : Value} {l : List PQ} {vs : List Value} {w : World} (h : QRow base tr ti v l vs w) (hb : base' ≤ base) : QRow base' tr ti v l vs w :=
  ⟨h.1, own_mono h.2.1 hb, fun j q u a b => own_mono (h.2.2 j q u a b) hb⟩
theorem twoS {b o n0 : Nat} {c0 c1 : Value} {wr W : World} (h0 : wr.cell? ⟨b, o, none⟩ = some c0) (h1 : wr.cell? ⟨b, o + 1, none⟩ = some c1) (hn : n0 = wr.heap.size) (hb : Below n0 wr W) :
    W.cell? ⟨b, o, none⟩ = some c0 ∧ W.cell? ⟨b, o + 1, none⟩ = some c1 ∧ Below n0 wr W := by
  subst hn
  exact ⟨by rw [(bcell hb).1 _ _ (lt_of_cell h0)]; exact h0, by rw [(bcell hb).1 _ _ (lt_of_cell h1)]; exact h1, hb⟩
theorem below_trans' {n1 : Nat} {wr W W2 : World} (h : Below n1 wr W) (hn : n1 = wr.heap.size) (k : Below W.heap.size W W2) : Below n1 wr W2 := h.trans (k.mono (by rw [hn]; exact h.size))
theorem rows_kept {base : Nat} {tr ti : TypeId} {v : Value} {l : List PQ} {vs : List Value} {wr W : World} {k n1 : Nat} (h : QRow base tr ti v l vs wr) (hk : l.length = k) (hn : n1 = wr.heap.size) (hb : Below n1 wr W) : W.ownsRow base tr 2 v k (rulesQ (l.zip vs)) := by
  subst hn hk; exact ownsRow_grown h.2.1 hb
theorem rows_all {base : Nat} {tr ti : TypeId} {v : Value} {l : List PQ} {vs : List Value} {wr W : World} {n1 : Nat} (h : QRow base tr ti v l vs wr) (hn : n1 = wr.heap.size) (hb : Below n1 wr W) : QRow base tr ti v l vs W := by
  subst hn; exact h.grown hb
/-- Rules with items in rows of the call's own are returned. -/
def BackIs (tr ti : TypeId) (l : List PQ) (w : World) (e : Ending) (w' : World) : Prop := ∃ u vs, e = .returned u ∧ QRow w.heap.size tr ti u l vs w' ∧ Below w.heap.size w w'
/-- The state of a loop that makes them. -/
def BackS (tr ti : TypeId) (l : List PQ) (w : World) (k : Nat) (u : Value) (wr : World) : Prop := ∃ vs, QRow w.heap.size tr ti u (l.take k) vs wr ∧ Below w.heap.size w wr
theorem BackS.step {tr ti : TypeId} {l : List PQ} {q : PQ} {w wr W W' : World} {k n0 n1 : Nat} {v v' u : Value} {vs : List Value} (hne : ti ≠ tr) (hq : l[k]? = some q) (h : QRow w.heap.size tr ti v (l.take k) vs wr) (hkl : (l.take k).length = k) (hn0 : n0 = w.heap.size) (hn1 : n1 = wr.heap.size) (hb0 : Below n0 w W) (hb : Below n1 wr W)
    (hu : W.ownsRow w.heap.size ti 7 u q.items.length (itemsC q.items)) (hown : W'.ownsRow w.heap.size tr 2 v' (k + 1) (rulesQ ((l.take k).zip vs) ++ [.string q.name, u])) (hg : W.grownBy W' v.ownBlock) : BackS tr ti l w (k + 1) v' W' := by
  subst hn0
  refine ⟨vs ++ [u], ?_, hb0.grown hg hb0.size (fun g e => (h.2.1.lt g e).1)⟩
  rw [take_snoc' l k q hq]
  exact (rows_all h hn1 hb).step hne hu (by rw [hkl]; exact hown) hg
theorem infoRRule : (Try.prog.info? 27).map (fun i => (i.zero, i.size, i.bytes)) = some (some (.agg #[.string ⟨#[]⟩, .slice none 0 0]), 2, 40) := by kernel_rfl
theorem infoBRule : (Try.prog.info? 66).map (fun i => (i.zero, i.size, i.bytes)) = some (some (.agg #[.string ⟨#[]⟩, .slice none 0 0]), 2, 40) := by kernel_rfl
set_option maxHeartbeats 8000000 in
set_option maxRecDepth 100000 in
theorem back_any (v : Value) (l : List PQ) (w : World) (hl : l.length ≤ 1000000) (hi : ∀ q, q ∈ l → q.items.length ≤ 1000000) (hv : QsAt w v l) :
    Calls Try.prog 17 #[v] w (BackIs 27 32 l w) := by
  obtain ⟨va, vc, rfl⟩ := hv.slice
  obtain ⟨ii, hii, hz0, hz1, hz2⟩ := info_parts infoRRule
  have HV := Lib.hid hv
  have HI := Lib.hid hi
  clear hv hi
  go_enter Try.func17, Try.ntmps17
  go_wp2
  go_loopw [4, 3] (fun c u wr => ∃ k : Nat, k ≤ l.length ∧ c = .int .i64 k ∧ BackS 27 32 l w k u wr) (fun c _ _ => l.length - (intOf c).toNat)
  case atStart => exact ⟨0, Nat.zero_le _, rfl, [], by rw [List.take_zero]; exact QRow.nil _ _ _ _, Below.refl _ _⟩
  case round =>
    obtain ⟨k, hk, rfl, vs, ho, hb⟩ := hrel
    obtain ⟨ua, uc, rfl⟩ := own_slice' ho.2.1
    have hkl : (l.take k).length = k := by rw [List.length_take]; omega
    rw [hkl] at ho ⊢
    by_cases hlt : k < l.length
    · obtain ⟨q, hq⟩ : ∃ q, l[k]? = some q := ⟨_, List.getElem?_eq_getElem hlt⟩
      obtain ⟨b, off, ia, ic, rfl, c0, c1, ci⟩ := HV.out.at hq
      have k1 : (k : Int) < (l.length : Int) := by omega
      have HQ := Lib.hid hq
      have HO := Lib.hid ho
      have HB := Lib.hid hb
      have HC0 := Lib.hid c0
      have HC1 := Lib.hid c1
      have hbs := hb.size
      have HIQ := Lib.hid (HI.out q (List.mem_of_getElem? hq))
      have HKL := Lib.hid hkl
      obtain ⟨n0, hn0⟩ : ∃ n0, n0 = w.heap.size := ⟨_, rfl⟩
      obtain ⟨n1, hn1⟩ : ∃ n1, n1 = wr.heap.size := ⟨_, rfl⟩
      have hb0 : Below n0 w wr := hn0 ▸ hb
      have HCI := Lib.hid (fun (W : World) (hW : Below n0 w W) => lItems_any (.slice ia q.items.length ic) q.items W HIQ.out (ci.kept hW (by omega)))
      clear hq ho hb ci c0 c1 hkl
      go_wp2_with fail
      go_region_held3 (fun W => W.cell? ⟨b, off + k * 2, none⟩ = some (.string q.name) ∧ W.cell? ⟨b, off + k * 2 + 1, none⟩ = some (.slice ia q.items.length ic) ∧ Below n0 w W)
        (first | exact hS | (go_split_ands; refine twoS HC0.out HC1.out hn0 ?_; repeat (first | assumption | refine Below.drew ?_ | refine below_alloc' ?_ hn0 _)))
        (first
          | ((go_split_ands
              rename Below n0 w _ => hb'
              go_at_call 25
              (with_reducible refine (HCI.out _ hb').mono ?_)
              rintro e w2 ⟨u, rfl, hown, hb2⟩
              obtain ⟨pa, pc, rfl⟩ := own_slice' hown
              have hBr := below_trans' (n1 := n1) (wr := wr) (by repeat (first | exact Below.refl _ _ | refine Below.drew ?_ | refine below_alloc' ?_ hn1 _)) hn1 hb2
              have hS := twoS HC0.out HC1.out hn0 (below_trans' hb' hn0 hb2)
              have HP := Lib.hid (own_mono hown (base' := w.heap.size) (by have := hb'.size; omega))
              clear hown))
          | ((go_split_ands
              rename Below n0 w _ => hb'
              refine step_append_own (by rfl) _ _ 22 (by rfl) w.heap.size 27 ii _ 2 40 Try.underlying22 hii hz0 hz1 hz2 (by rfl) (by decide) _ k _ (by rfl) (by refine rows_kept HO.out HKL.out hn1 (W := ?_) ?_; repeat (first | assumption | refine Below.drew ?_ | refine below_alloc' ?_ hn1 _)) _ 1 1 [.string q.name, .slice pa q.items.length pc] (by rfl) (by rfl) (by refine Bl.news (t := 27) ?_; repeat (first | (refine Bl.new' ?_; simp; done) | refine Bl.drew ?_ | refine Bl.past ?_)) (by simp [Value.oneCell']) (by unfold maxLen; omega) (by omega) (by have := hb'.size; omega) ?_
              intro a3' c3' w3 hown3 hgrow3 hat3
              have hB3 := hb'.grown hgrow3 (by have := hb'.size; omega) (fun g e => by rw [hn0]; exact (HO.out.2.1.lt g e).1)
              have hS := twoS HC0.out HC1.out hn0 hB3)))
      have hG : (w2.alloc (.cells #[.string q.name, .slice pa q.items.length pc] 27)).grownBy w3 (Value.slice ua k uc).ownBlock := hgrow3
      have HS3 := Lib.hid (BackS.step (tr := 27) (ti := 32) (by decide) HQ.out HO.out HKL.out hn0 hn1 hb' (below_alloc' hBr hn1 _) (ownsRow_grown HP.out (one_new _ _)) hown3 hG)
      clear hgrow3 hat3 hown3 hG hB3 hS hb' hBr hb2 HO
      go_wp2
      go_roundw
      case rel => exact ⟨k + 1, by omega, by go_num, HS3.out⟩
      case measure => simp [intOf]; omega
    · obtain rfl : k = l.length := by omega
      have k1 : ¬ (l.length : Int) < (l.length : Int) := by omega
      rw [List.take_length] at ho
      have HO := Lib.hid ho
      have HB := Lib.hid hb
      clear ho hb hkl
      go_wp2
      go_ret
      exact ⟨_, vs, rfl, HO.out, HB.out⟩
end
section
open Go.RowKit
def fewQ (l : List PQ) : Bool := l.all (fun q => decide (q.name.size ≤ 100)) && (decide (l.length ≤ 30) && decide (sumI l ≤ 200))
theorem fewQ_yes {l : List PQ} (h : fewQ l = true) : (∀ q, q ∈ l → q.name.size ≤ 100) ∧ l.length ≤ 30 ∧ sumI l ≤ 200 := by
  unfold fewQ at h
  simp only [Bool.and_eq_true, decide_eq_true_eq, List.all_eq_true] at h
  exact ⟨h.1, h.2.1, h.2.2⟩
theorem fewQ_name {l : List PQ} {k : Nat} {q : PQ} (h : l[k]? = some q) (h2 : 100 < q.name.size) : fewQ l = false := by
  unfold fewQ
  have : l.all (fun q => decide (q.name.size ≤ 100)) = false := by
    rw [List.all_eq_false]
    exact ⟨q, List.mem_of_getElem? h, by simp; omega⟩
  rw [this]; rfl
theorem fewQ_is {l : List PQ} (h1 : ∀ (j : Nat) q, j < l.length → l[j]? = some q → q.name.size ≤ 100) : fewQ l = (decide (l.length ≤ 30) && decide (sumI l ≤ 200)) := by
  unfold fewQ
  have : l.all (fun q => decide (q.name.size ≤ 100)) = true := by
    rw [List.all_eq_true]
    intro q hq
    obtain ⟨j, hj⟩ := List.getElem?_of_mem hq
    exact decide_eq_true (h1 j q (List.getElem?_eq_some_iff.1 hj).1 hj)
  rw [this]; rfl
theorem sumI_snoc (l : List PQ) (k : Nat) (q : PQ) (h : l[k]? = some q) : sumI (l.take (k + 1)) = sumI (l.take k) + q.items.length := by
  rw [take_snoc' l k q h]
  unfold sumI
  rw [List.map_append, List.sum_append]; simp
theorem sumI_le {l : List PQ} {b : Nat} (h : ∀ q, q ∈ l → q.items.length ≤ b) : sumI l ≤ l.length * b := by
  induction l with
  | nil => exact Nat.zero_le _
  | cons q t ih =>
    have h1 := ih (fun x hx => h x (by simp [hx]))
    have h2 := h q (by simp)
    have : sumI (q :: t) = q.items.length + sumI t := by unfold sumI; rw [List.map_cons, List.sum_cons]
    rw [this, List.length_cons, Nat.add_mul]; omega
theorem sumI_mem {l : List PQ} {q : PQ} (h : q ∈ l) : q.items.length ≤ sumI l := by
  induction l with
  | nil => cases h
  | cons p t ih =>
    have : sumI (p :: t) = p.items.length + sumI t := by unfold sumI; rw [List.map_cons, List.sum_cons]
    rw [this]
    rcases List.mem_cons.1 h with rfl | h
    · omega
    · have := ih h; omega
set_option maxHeartbeats 4000000 in
set_option maxRecDepth 100000 in
theorem few6_any (v : Value) (l : List PQ) (w : World) (hl : l.length ≤ 140737488355328) (hi : ∀ q, q ∈ l → q.items.length ≤ 140737488355328) (hv : QsAt w v l) :
    Calls Try.prog 9 #[v] w fun e w' => e = .returned (.bool (fewQ l)) ∧ w' = w := by
  obtain ⟨va, vc, rfl⟩ := hv.slice
  have HV := Lib.hid hv
  have HI := Lib.hid hi
  clear hv hi
  go_enter Try.func9, Try.ntmps9
  go_wp2
  go_loopw [4, 3] (fun c n wr => ∃ (k : Nat) (z : Int), k ≤ l.length ∧ c = .int .i64 k ∧ n = .int .i64 z ∧ (k ≤ 30 → z = (sumI (l.take k) : Nat)) ∧ (∀ (j : Nat) q, j < k → l[j]? = some q → q.name.size ≤ 100) ∧ wr = w) (fun c _ _ => l.length - (intOf c).toNat)
  case atStart => exact ⟨0, 0, Nat.zero_le _, rfl, rfl, fun _ => rfl, fun j q h => absurd h (Nat.not_lt_zero _), rfl⟩
  case round =>
    obtain ⟨k, z, hk, rfl, rfl, hz, hn, rfl⟩ := hrel
    by_cases hlt : k < l.length
    · obtain ⟨q, hq⟩ : ∃ q, l[k]? = some q := ⟨_, List.getElem?_eq_getElem hlt⟩
      obtain ⟨b, off, ia, ic, rfl, c0, c1, -⟩ := HV.out.at hq
      have hiq := HI.out q (List.mem_of_getElem? hq)
      have k1 : (k : Int) < (l.length : Int) := by omega
      have HQ := Lib.hid hq
      have HN := Lib.hid hn
      clear hq hn
      by_cases hnm : 100 < q.name.size
      · have HF := Lib.hid (fewQ_name HQ.out hnm)
        have k2 : (100 : Int) < (q.name.size : Int) := by omega
        clear hz
        go_wp2
        go_ret
        exact ⟨ret_bool HF.out.symm, rfl⟩
      · have k2 : ¬ (100 : Int) < (q.name.size : Int) := by omega
        have HM := Lib.hid (show q.name.size ≤ 100 by omega)
        by_cases h30 : k < 30
        · have hz' := hz (by omega)
          have hs := sumI_le (l := l.take k) (b := 140737488355328) (fun x hx => HI.out x (List.mem_of_mem_take hx))
          rw [List.length_take] at hs
          have hz0 : 0 ≤ z := by omega
          have hz1 : z ≤ 30 * 140737488355328 := by
            have : min k l.length ≤ 30 := by omega
            have h3 : min k l.length * 140737488355328 ≤ 30 * 140737488355328 := Nat.mul_le_mul_right _ this
            omega
          have HZ := Lib.hid hz'
          have HSN := Lib.hid (sumI_snoc l k q HQ.out)
          clear hz hz' hs hnm
          go_wp2
          go_roundw
          case rel => exact ⟨k + 1, _, by omega, by go_num, rfl, fun _ => by rw [HZ.out, HSN.out]; omega, fun j p hj hp => by
            rcases Nat.lt_or_ge j k with h | h
            · exact HN.out j p h hp
            · obtain rfl : j = k := by omega
              rw [HQ.out] at hp
              rw [← Option.some.inj hp]; exact HM.out, trivial⟩
          case measure => simp [intOf]; omega
        · clear hz hnm
          go_wp2
          go_roundw
          case rel => exact ⟨k + 1, _, by omega, by go_num, rfl, fun h => absurd h (by omega), fun j p hj hp => by
            rcases Nat.lt_or_ge j k with h | h
            · exact HN.out j p h hp
            · obtain rfl : j = k := by omega
              rw [HQ.out] at hp
              rw [← Option.some.inj hp]; exact HM.out, trivial⟩
          case measure => simp [intOf]; omega
    · obtain rfl : k = l.length := by omega
      have k1 : ¬ (l.length : Int) < (l.length : Int) := by omega
      have HF := Lib.hid (fewQ_is hn)
      clear hn
      by_cases h30 : l.length ≤ 30
      · have hz' := hz h30
        rw [List.take_length] at hz'
        have k3 : (l.length : Int) ≤ 30 := by omega
        by_cases hs : sumI l ≤ 200
        · have k4 : z ≤ 200 := by omega
          have HR : Hid (fewQ l = true) := Lib.hid (by rw [HF.out, decide_eq_true h30, decide_eq_true hs]; rfl)
          clear hz hz' HF
          go_wp2
          go_ret
          exact ⟨ret_bool HR.out.symm, rfl⟩
        · have k4 : ¬ z ≤ 200 := by omega
          have HR : Hid (fewQ l = false) := Lib.hid (by rw [HF.out, decide_eq_false hs, Bool.and_false])
          clear hz hz' HF
          go_wp2
          go_ret
          exact ⟨ret_bool HR.out.symm, rfl⟩
      · have k3 : ¬ (l.length : Int) ≤ 30 := by omega
        have HR : Hid (fewQ l = false) := Lib.hid (by rw [HF.out, decide_eq_false h30, Bool.false_and])
        clear hz HF
        go_wp2
        go_ret
        exact ⟨ret_bool HR.out.symm, rfl⟩
end
section
open Go.RowKit
theorem fourS {b o c p n0 : Nat} {x0 x1 y0 y1 : Value} {wr W : World} (h0 : wr.cell? ⟨b, o, none⟩ = some x0) (h1 : wr.cell? ⟨b, o + 1, none⟩ = some x1) (h2 : wr.cell? ⟨c, p, none⟩ = some y0) (h3 : wr.cell? ⟨c, p + 1, none⟩ = some y1) (hn : n0 = wr.heap.size) (hb : Below n0 wr W) :
    W.cell? ⟨b, o, none⟩ = some x0 ∧ W.cell? ⟨b, o + 1, none⟩ = some x1 ∧ W.cell? ⟨c, p, none⟩ = some y0 ∧ W.cell? ⟨c, p + 1, none⟩ = some y1 ∧ Below n0 wr W := by
  subst hn
  exact ⟨by rw [(bcell hb).1 _ _ (lt_of_cell h0)]; exact h0, by rw [(bcell hb).1 _ _ (lt_of_cell h1)]; exact h1, by rw [(bcell hb).1 _ _ (lt_of_cell h2)]; exact h2, by rw [(bcell hb).1 _ _ (lt_of_cell h3)]; exact h3, hb⟩
theorem below_of4 {A B C D : Prop} {n0 : Nat} {w W : World} (h : A ∧ B ∧ C ∧ D ∧ Below n0 w W) : Below n0 w W := h.2.2.2.2
theorem drewN_below {w : World} {q : Nat} : Below w.heap.size w (w.drewN q) := below_drewN (Below.refl _ _)
theorem same_ne {l m : List PQ} {k : Nat} {q p : PQ} (hq : l[k]? = some q) (hp : m[k]? = some p) (h : q ≠ p) : Hid (decide (l = m) = false) := decN fun e => by
  rw [e, hp] at hq
  exact h (Option.some.inj hq).symm
theorem sameItems_below (u v : Value) (l m : List PI) (w : World) (hl : l.length ≤ 1000000) (hu : ItemsAt w u l) (hv : ItemsAt w v m) (b : Bool) (h : decide (l = m) = b) :
    Calls Try.prog 24 #[u, v] w fun e w' => e = .returned (.bool b) ∧ Below w.heap.size w w' :=
  (sameItems_any u v l m w hl hu hv).mono fun e w' hh => by
    obtain ⟨h1, q, h2⟩ := hh
    subst h2
    exact ⟨by rw [h1, h], drewN_below⟩
set_option maxHeartbeats 4000000 in
set_option maxRecDepth 100000 in
theorem same6_any (u v : Value) (l m : List PQ) (w : World) (hll : l.length ≤ 1000000) (hi : ∀ q, q ∈ l → q.items.length ≤ 1000000) (hu : QsAt w u l) (hv : QsAt w v m) :
    Calls Try.prog 16 #[u, v] w fun e w' => e = .returned (.bool (decide (l = m))) ∧ Below w.heap.size w w' := by
  obtain ⟨ua, uc, rfl⟩ := hu.slice
  obtain ⟨va, vc, rfl⟩ := hv.slice
  have HU := Lib.hid hu
  have HV := Lib.hid hv
  have HI := Lib.hid hi
  clear hu hv hi
  by_cases hlen : l.length = m.length
  · have q1 : ((l.length : Int) != (m.length : Int)) = false := by rw [hlen]; simp
    go_enter Try.func16, Try.ntmps16
    go_wp2
    go_loopw [5] (fun c wr => ∃ k : Nat, k ≤ l.length ∧ c = .int .i64 k ∧ Below w.heap.size w wr ∧ l.take k = m.take k) (fun c _ => l.length - (intOf c).toNat)
    case atStart => exact ⟨0, Nat.zero_le _, rfl, Below.refl _ _, rfl⟩
    case round =>
      obtain ⟨k, hk, rfl, hb, hq⟩ := hrel
      have HQ := Lib.hid hq
      clear hq
      by_cases hlt : k < l.length
      · obtain ⟨x, hx⟩ : ∃ x, l[k]? = some x := ⟨_, List.getElem?_eq_getElem hlt⟩
        obtain ⟨y, hy⟩ : ∃ y, m[k]? = some y := ⟨_, List.getElem?_eq_getElem (by omega)⟩
        obtain ⟨ub, uo, ia, ic, rfl, c0, c1, ci⟩ := HU.out.at hx
        obtain ⟨vb, vo, ja, jc, rfl, d0, d1, di⟩ := HV.out.at hy
        have hlm : k < m.length := by omega
        have k1 : (k : Int) < (l.length : Int) := by omega
        have k2 : (k : Int) < (m.length : Int) := by omega
        have HX := Lib.hid hx
        have HY := Lib.hid hy
        have HL := Lib.hid hlen
        obtain ⟨n0, hn0⟩ : ∃ n0, n0 = w.heap.size := ⟨_, rfl⟩
        have hb0 : Below n0 w wr := hn0 ▸ hb
        have HC0 := Lib.hid c0
        have HC1 := Lib.hid c1
        have HD0 := Lib.hid d0
        have HD1 := Lib.hid d1
        have hxi := HI.out x (List.mem_of_getElem? hx)
        have HCS := Lib.hid (fun (b : Bool) (hd : decide (x.items = y.items) = b) (W : World) (hW : Below n0 w W) => sameItems_below (.slice ia x.items.length ic) (.slice ja y.items.length jc) x.items y.items W hxi (ci.kept hW (by omega)) (di.kept hW (by omega)) b hd)
        clear hx hy hlen c0 c1 d0 d1 ci di hb hxi
        by_cases hnm : x.name = y.name
        · have qn : (x.name.toList == y.name.toList) = true := by rw [hnm]; simp
          have HNM := Lib.hid hnm
          clear hnm
          by_cases hit : x.items = y.items
          · have HIT := Lib.hid hit
            have HCT := Lib.hid (HCS.out true (decide_eq_true hit))
            clear hit HCS
            go_wp2
            go_region_held3 (fun W => W.cell? ⟨ub, uo + k * 2, none⟩ = some (.string x.name) ∧ W.cell? ⟨ub, uo + k * 2 + 1, none⟩ = some (.slice ia x.items.length ic) ∧ W.cell? ⟨vb, vo + k * 2, none⟩ = some (.string y.name) ∧ W.cell? ⟨vb, vo + k * 2 + 1, none⟩ = some (.slice ja y.items.length jc) ∧ Below n0 w W)
              (first | exact hS | (go_split_ands; refine fourS HC0.out HC1.out HD0.out HD1.out hn0 ?_; repeat (first | assumption | refine Below.drew ?_ | refine below_alloc' ?_ hn0 _)))
              (first
                | (go_at_call 24; (with_reducible refine (HCT.out _ (below_of4 (by assumption))).mono ?_); rintro e w2 ⟨rfl, hb2⟩; have hS := fourS HC0.out HC1.out HD0.out HD1.out hn0 (below_trans' (below_of4 (by assumption)) hn0 hb2)))
            have hb3 := below_trans' hb0.drew hn0 hb2
            rw [hn0] at hb3
            clear hb2 hb0
            go_wp2
            go_roundw
            case rel => exact ⟨k + 1, by omega, by go_num, hb3, by rw [take_snoc' l k x HX.out, take_snoc' m k y HY.out, HQ.out, (PQ.eq_iff x y).1 ⟨HNM.out, HIT.out⟩]⟩
            case measure => simp [intOf]; omega
          · have HN := same_ne HX.out HY.out (fun e => hit (by rw [e]))
            have HCT := Lib.hid (HCS.out false (decide_eq_false hit))
            clear hit HCS
            go_wp2
            go_region_held3 (fun W => W.cell? ⟨ub, uo + k * 2, none⟩ = some (.string x.name) ∧ W.cell? ⟨ub, uo + k * 2 + 1, none⟩ = some (.slice ia x.items.length ic) ∧ W.cell? ⟨vb, vo + k * 2, none⟩ = some (.string y.name) ∧ W.cell? ⟨vb, vo + k * 2 + 1, none⟩ = some (.slice ja y.items.length jc) ∧ Below n0 w W)
              (first | exact hS | (go_split_ands; refine fourS HC0.out HC1.out HD0.out HD1.out hn0 ?_; repeat (first | assumption | refine Below.drew ?_ | refine below_alloc' ?_ hn0 _)))
              (first
                | (go_at_call 24; (with_reducible refine (HCT.out _ (below_of4 (by assumption))).mono ?_); rintro e w2 ⟨rfl, hb2⟩; have hS := fourS HC0.out HC1.out HD0.out HD1.out hn0 (below_trans' (below_of4 (by assumption)) hn0 hb2)))
            have hb3 := below_trans' hb0.drew hn0 hb2
            rw [hn0] at hb3
            clear hb2 hb0
            go_wp2
            go_ret
            exact ⟨ret_bool HN.out.symm, hb3⟩
        · have HN := same_ne HX.out HY.out (fun e => hnm (by rw [e]))
          have qn : (x.name.toList == y.name.toList) = false := by rw [str_beq]; exact decide_eq_false hnm
          have c0 := (fourS HC0.out HC1.out HD0.out HD1.out hn0 hb0).1
          have d0 := (fourS HC0.out HC1.out HD0.out HD1.out hn0 hb0).2.2.1
          clear hnm HCS
          go_wp2
          go_quiet (fail)
          rw [hn0] at hb0
          go_wp2
          go_ret
          exact ⟨ret_bool HN.out.symm, below_drewN hb0⟩
      · have HN : Hid (decide (l = m) = true) := decY (by
          have hk' : k = l.length := by omega
          have h1 := HQ.out
          rw [List.take_of_length_le (by omega), List.take_of_length_le (by omega)] at h1
          exact h1)
        have k1 : ¬ (k : Int) < (l.length : Int) := by omega
        have HB := Lib.hid hb
        clear hb
        go_wp2
        go_ret
        exact ⟨ret_bool HN.out.symm, HB.out⟩
  · have q1 : ((l.length : Int) != (m.length : Int)) = true := ibne_yes (by omega)
    have HN : Hid (decide (l = m) = false) := decN fun e => hlen (by rw [e])
    go_enter Try.func16, Try.ntmps16
    go_wp2
    go_ret
    exact ⟨ret_bool HN.out.symm, Below.refl _ _⟩
end
section
open Go.RowKit
/-- The state of the inner loop: the rule's block at the end of the world wr, its items so far. -/
def RulI (wr : World) (nm : ByteArray) (its : List PI) (j : Nat) (wi : World) : Prop := ∃ iv, Bl wi wr.heap.size 66 #[.string nm, iv] ∧ wi.ownsRow (wr.heap.size + 1) 64 7 iv j (itemsC (its.take j)) ∧ Below wr.heap.size wr wi
theorem bl_in {b n1 : Nat} {t : TypeId} {cs : Array Value} {wr W : World} (h : Bl wr b t cs) (hn : n1 = wr.heap.size) (hb : Below n1 wr W) : Bl W b t cs := by
  subst hn; exact h.below hb
theorem own_in {base : Nat} {e : TypeId} {size n n1 : Nat} {v : Value} {xs : List Value} {wr W : World} (h : wr.ownsRow base e size v n xs) (hn : n1 = wr.heap.size) (hb : Below n1 wr W) : W.ownsRow base e size v n xs := by
  subst hn; exact ownsRow_grown h hb
theorem RulI.step {wr wi W w5 : World} {nm : ByteArray} {its : List PI} {j n1 : Nat} {x : PI} {iv v5 : Value} (hx : its[j]? = some x) (hP : Bl wi wr.heap.size 66 #[.string nm, iv]) (hi : wi.ownsRow (wr.heap.size + 1) 64 7 iv j (itemsC (its.take j))) (hb : Below wr.heap.size wr wi)
    (hn1 : n1 = wi.heap.size) (hbW : Below n1 wi W) (hown : w5.ownsRow (wr.heap.size + 1) 64 7 v5 (j + 1) (itemsC (its.take j) ++ itemC x)) (hg : W.grownBy w5 iv.ownBlock) : RulI wr nm its (j + 1) (w5.setCell ⟨wr.heap.size, 1, none⟩ v5) := by
  have hi3 := own_in hi hn1 hbW
  have hP5 := (bl_in hP hn1 hbW).grown hg (fun g e => by obtain ⟨c, fz, hc⟩ := Lib.ownsRow_kind hi3 g e; exact ⟨c, 64, fz, hc, by decide⟩)
  subst hn1
  have hBW := hb.trans (hbW.mono hb.size)
  refine ⟨v5, hP5.set' _, ?_, (hBW.grown hg hBW.size (fun g e => by have := (hi.lt g e).1; omega)).setCell (p := ⟨wr.heap.size, 1, none⟩) (Nat.le_refl _) _⟩
  have := ownsRow_setCell_other hown (a := ⟨wr.heap.size, 1, none⟩) (own_ne hown hP5 (by decide)) v5
  rw [take_snoc' its j x hx, itemsC_append]
  simpa [itemsC] using this
set_option maxHeartbeats 8000000 in
set_option maxRecDepth 100000 in
theorem rules_any (v : Value) (l : List PQ) (w : World) (hl : l.length ≤ 1000000) (hi : ∀ q, q ∈ l → q.items.length ≤ 1000000) (hv : QsAt w v l) :
    Calls Try.prog 11 #[v] w (BackIs 66 64 l w) := by
  obtain ⟨va, vc, rfl⟩ := hv.slice
  obtain ⟨ii, hii, hz0, hz1, hz2⟩ := info_parts infoBRule
  obtain ⟨ie, hie, he0, he1, he2⟩ := info_parts infoBItem
  have HV := Lib.hid hv
  have HI := Lib.hid hi
  clear hv hi
  go_enter Try.func11, Try.ntmps11
  go_wp2
  go_loopw [4, 3] (fun c u wr => ∃ k : Nat, k ≤ l.length ∧ c = .int .i64 k ∧ BackS 66 64 l w k u wr) (fun c _ _ => l.length - (intOf c).toNat)
  case atStart => exact ⟨0, Nat.zero_le _, rfl, [], by rw [List.take_zero]; exact QRow.nil _ _ _ _, Below.refl _ _⟩
  case round =>
    obtain ⟨k, hk, rfl, vs, ho, hb⟩ := hrel
    obtain ⟨ua, uc, rfl⟩ := own_slice' ho.2.1
    have hkl : (l.take k).length = k := by rw [List.length_take]; omega
    rw [hkl] at ho ⊢
    by_cases hlt : k < l.length
    · obtain ⟨q, hq⟩ : ∃ q, l[k]? = some q := ⟨_, List.getElem?_eq_getElem hlt⟩
      obtain ⟨b, off, ia, ic, rfl, d0, d1, ci⟩ := HV.out.at hq
      have c0 : wr.cell? ⟨b, off + k * 2, none⟩ = some (.string q.name) := by rw [(bcell hb).1 _ _ (lt_of_cell d0)]; exact d0
      have k1 : (k : Int) < (l.length : Int) := by omega
      have hql := HI.out q (List.mem_of_getElem? hq)
      have HQ := Lib.hid hq
      have HO := Lib.hid ho
      have HB := Lib.hid hb
      have hbs := hb.size
      have HKL := Lib.hid hkl
      have HD1 := Lib.hid d1
      have HCI := Lib.hid ci
      have dl := lt_of_cell d1
      clear hq ho hb hkl d0 d1 ci
      obtain ⟨wo, rfl⟩ : ∃ wo, wo = wr := ⟨_, rfl⟩
      go_wp2
      go_loopw [6] (fun c wi => ∃ j : Nat, j ≤ q.items.length ∧ c = .int .i64 j ∧ RulI wo q.name q.items j wi) (fun c _ => q.items.length - (intOf c).toNat)
      case atStart => exact ⟨0, Nat.zero_le _, rfl, .slice none 0 0, Bl.new wo _ _, World.ownsRow_nil _ _ _ _, one_new wo _⟩
      case round =>
        obtain ⟨j, hj, rfl, iv, hP, hiv, hbi⟩ := hrel
        obtain ⟨pa, pc, rfl⟩ := own_slice' hiv
        have hbw : Below w.heap.size w wr := HB.out.trans (hbi.mono hbs)
        have e1 : wr.cell? ⟨b, off + k * 2 + 1, none⟩ = some (.slice ia q.items.length ic) := by rw [(bcell hbw).1 _ _ dl]; exact HD1.out
        have p0 : wr.cell? ⟨wo.heap.size, 0, none⟩ = some (.string q.name) := hP.cell rfl
        have p1 : wr.cell? ⟨wo.heap.size, 1, none⟩ = some (.slice pa j pc) := hP.cell rfl
        have HP := Lib.hid hP
        have HIV := Lib.hid hiv
        have HBI := Lib.hid hbi
        by_cases hjl : j < q.items.length
        · obtain ⟨x, hx⟩ : ∃ x, q.items[j]? = some x := ⟨_, List.getElem?_eq_getElem hjl⟩
          obtain ⟨xb, xo, rfl, f0, f1, f2, f3, f4, f5, f6⟩ := (HCI.out.kept hbw (Nat.le_refl _)).at hx
          have j1 : (j : Int) < (q.items.length : Int) := by omega
          have HX := Lib.hid hx
          have hpl := hP.lt
          have el := lt_of_cell e1
          have fl := lt_of_cell f0
          obtain ⟨n1, hn1⟩ : ∃ n1, n1 = wr.heap.size := ⟨_, rfl⟩
          have hbs2 := hbi.size
          clear hP hiv hbi hx p0 hbw
          go_wp2
          go_region_law (refine step_append_own (by rfl) _ _ 60 (by rfl) (wo.heap.size + 1) 64 ie _ 7 56 Try.underlying60 hie he0 he1 he2 (by rfl) (by decide) (.slice pa j pc) j _ (by simp [Act.eval]) (by refine own_in HIV.out hn1 ?_; repeat (first | assumption | (rw [hn1]; exact Below.refl _ _) | refine Below.drew ?_ | refine below_alloc' ?_ hn1 _)) _ 1 1 (itemC x) (by simp [Act.eval]; rfl) (by rfl) (by refine Bl.news (t := 64) ?_; repeat (first | (refine Bl.new' ?_; simp; done) | refine Bl.drew ?_ | refine Bl.past ?_)) (by simp [itemC, Value.oneCell']) (by unfold maxLen; omega) (by omega) (by simp; omega) ?_; intro a5 c5 w5 hown5 hgrow5 hat5; have hbw5 : Hid (Below n1 wr (wr.alloc (.cells #[.int .i64 x.op, .int .i64 x.kids, .int .i64 x.rule, .int .u64 x.s0, .int .u64 x.s1, .int .u64 x.s2, .int .u64 x.s3] 64)).drew) := Lib.hid (Below.drew (below_alloc' (by rw [hn1]; exact Below.refl _ _) hn1 _)); have hp5 := (bl_in HP.out hn1 hbw5.out).grown hgrow5 (fun g e => by obtain ⟨c, fz, hc⟩ := Lib.ownsRow_kind (own_in HIV.out hn1 hbw5.out) g e; exact ⟨c, 64, fz, hc, by decide⟩); have x1 := hp5.cell (o := 1) rfl; have xf := hp5.free; have HO5 := Lib.hid hown5; have HG5 := Lib.hid hgrow5; clear hown5 hgrow5 hat5 hp5)
          all_goals
            go_wp2
            go_roundw
            case rel => exact ⟨j + 1, by omega, by go_num, RulI.step HX.out HP.out HIV.out HBI.out hn1 hbw5.out HO5.out HG5.out⟩
            case measure => simp [intOf]; omega
        · obtain rfl : j = q.items.length := by omega
          have j1 : ¬ (q.items.length : Int) < (q.items.length : Int) := by omega
          have hbs2 := hbi.size
          have HU := Lib.hid (own_in (HO.out.2.1) rfl hbi)
          rw [HKL.out] at HU
          have HIV2 : Hid (wr.ownsRow (wo.heap.size + 1) 64 7 (.slice pa q.items.length pc) q.items.length (itemsC q.items)) := Lib.hid (by have := HIV.out; rw [List.take_length] at this; exact this)
          obtain ⟨n0, hn0⟩ : ∃ n0, n0 = w.heap.size := ⟨_, rfl⟩
          obtain ⟨n1, hn1⟩ : ∃ n1, n1 = wo.heap.size := ⟨_, rfl⟩
          clear hP hiv hbi
          go_wp2_with (at_builtin; refine wpList_append_own _ rfl _ _ 39 rfl w.heap.size 66 ii _ 2 40 Try.underlying39 hii hz0 hz1 hz2 rfl (by decide) _ k _ rfl (ownsRow_grown HU.out (one_new wr _)) ⟨wr.heap.size, 0, none⟩ 1 1 [.string q.name, .slice pa q.items.length pc] rfl rfl (cell_row_one wr _ _) (by simp [Value.oneCell']) (by unfold maxLen; omega) (by omega) (by simp; omega) ?_; intro v5 w5 hown' hgrow _; have HS3 := Lib.hid (BackS.step (tr := 66) (ti := 64) (n0 := n0) (n1 := n1) (by decide) HQ.out HO.out HKL.out hn0 hn1 (hn0 ▸ hbw.trans ((one_new wr _).mono (Nat.le_trans hbs hbs2))) (hn1 ▸ HBI.out.trans ((one_new wr _).mono hbs2)) (own_mono (ownsRow_grown HIV2.out (one_new wr _)) (by omega)) hown' hgrow); clear hown' hgrow)
          go_roundw
          case rel => exact ⟨k + 1, by omega, by go_num, HS3.out⟩
          case measure => simp [intOf]; omega
    · obtain rfl : k = l.length := by omega
      have k1 : ¬ (l.length : Int) < (l.length : Int) := by omega
      rw [List.take_length] at ho
      have HO := Lib.hid ho
      have HB := Lib.hid hb
      clear ho hb hkl
      go_wp2
      go_ret
      exact ⟨_, vs, rfl, HO.out, HB.out⟩
end
end Go.Proofs.Ytnebdnonkefloaa
