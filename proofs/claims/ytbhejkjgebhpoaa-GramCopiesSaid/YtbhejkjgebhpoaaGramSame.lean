/- gram.sameNode, slices.EqualFunc on nodes, gram.Same. -/
import Derived.Test.YtbhejkjgebhpoaaGramEq
namespace Go.Proofs.Ytbhejkjgebhpoaa
open Go.RowKit
theorem setEq_is (x0 x1 x2 x3 y0 y1 y2 y3 : Int) : (x0 == y0 && (x1 == y1 && (x2 == y2 && x3 == y3))) = decide (x0 = y0 ∧ x1 = y1 ∧ x2 = y2 ∧ x3 = y3) := by
  rw [Bool.eq_iff_iff]; simp
theorem nodeAt_box (w : World) (n : PN) (kv : Value) (t : TypeId) : Below w.heap.size w (w.alloc (.cells #[.int .i64 n.op, kv, .int .i64 n.rule, .int .u64 n.s0, .int .u64 n.s1, .int .u64 n.s2, .int .u64 n.s3] t)) := (Below.refl _ _).alloc (Nat.le_refl _) _
set_option maxHeartbeats 2000000 in
set_option maxRecDepth 100000 in
theorem sameNode_any (n m : PN) (u v : Value) (w : World) (hl : n.kids.length ≤ maxLen) (hu : IntsAt w u n.kids) (hv : IntsAt w v m.kids) :
    Calls Try.prog 28 #[nodeV n u, nodeV m v] w fun e w' => e = .returned (.bool (decide (n = m))) ∧ Below w.heap.size w w' := by
  obtain ⟨o1, ks, r1, x0, x1, x2, x3⟩ := n
  obtain ⟨o2, ms, r2, y0, y1, y2, y3⟩ := m
  unfold nodeV
  dsimp only at hl hu hv ⊢
  have hB2 : ∀ (o o' : Obj), Below w.heap.size w ((w.alloc o).alloc o') := fun o o' => ((Below.refl _ _).alloc (Nat.le_refl _) _).alloc (by simp) _
  have hU : ∀ (o o' : Obj), IntsAt ((w.alloc o).alloc o') u ks := fun o o' => hu.kept (hB2 o o') (Nat.le_refl _)
  have hV : ∀ (o o' : Obj), IntsAt ((w.alloc o).alloc o') v ms := fun o o' => hv.kept (hB2 o o') (Nat.le_refl _)
  have HU := Lib.hid hU
  have HV := Lib.hid hV
  have HB := Lib.hid hB2
  have HL := Lib.hid hl
  clear hU hV hB2 hu hv hl
  by_cases h1 : o1 = o2
  · subst h1
    by_cases h2 : r1 = r2
    · subst h2
      by_cases h3 : x0 = y0 ∧ x1 = y1 ∧ x2 = y2 ∧ x3 = y3
      · obtain ⟨rfl, rfl, rfl, rfl⟩ := h3
        have qs : ∀ w, (binOp .eql 36 (.agg #[.int .u64 x0, .int .u64 x1, .int .u64 x2, .int .u64 x3]) (.agg #[.int .u64 x0, .int .u64 x1, .int .u64 x2, .int .u64 x3])).run Try.prog w = .ok (.bool true) w := fun w => by rw [geql_set, setEq_is]; simp
        have HS := Lib.hid qs
        clear qs
        have HE : Hid (decide ((⟨o1, ks, r1, x0, x1, x2, x3⟩ : PN) = ⟨o1, ms, r1, x0, x1, x2, x3⟩) = decide (ks = ms)) := Lib.hid (by
          by_cases h : ks = ms
          · subst h; simp
          · rw [decide_eq_false h, decide_eq_false]; intro e; injection e; contradiction)
        go_enter Try.func28, Try.ntmps28
        go_wp2_with (first
          | (with_reducible refine gwpList_agg BinOp.eql 36 _ _ _ rfl rfl _ _ rfl rfl ggt_set _ (HS.out _) ?_)
          | (go_at_call 37; (with_reducible refine (intsEq_any _ _ ks ms _ HL.out (HU.out _ _) (HV.out _ _)).mono ?_); rintro e w' ⟨rfl, q, rfl⟩))
        go_ret
        exact ⟨ret_bool HE.out.symm, below_drewN (HB.out _ _)⟩
      · have qs : ∀ w, (binOp .eql 36 (.agg #[.int .u64 x0, .int .u64 x1, .int .u64 x2, .int .u64 x3]) (.agg #[.int .u64 y0, .int .u64 y1, .int .u64 y2, .int .u64 y3])).run Try.prog w = .ok (.bool false) w := fun w => by rw [geql_set, setEq_is, decide_eq_false h3]
        have HS := Lib.hid qs
        have HE : Hid (decide ((⟨o1, ks, r1, x0, x1, x2, x3⟩ : PN) = ⟨o1, ms, r1, y0, y1, y2, y3⟩) = false) := decN (by intro e; injection e; exact h3 ⟨‹_›, ‹_›, ‹_›, ‹_›⟩)
        clear qs h3
        go_enter Try.func28, Try.ntmps28
        go_wp2_with (with_reducible refine gwpList_agg BinOp.eql 36 _ _ _ rfl rfl _ _ rfl rfl ggt_set _ (HS.out _) ?_)
        go_ret
        exact ⟨ret_bool HE.out.symm, HB.out _ _⟩
    · have q2 : (r1 == r2) = false := ibeq_no h2
      have HE : Hid (decide ((⟨o1, ks, r1, x0, x1, x2, x3⟩ : PN) = ⟨o1, ms, r2, y0, y1, y2, y3⟩) = false) := decN (by intro e; injection e; contradiction)
      clear h2
      go_enter Try.func28, Try.ntmps28
      go_wp2
      go_ret
      exact ⟨ret_bool HE.out.symm, HB.out _ _⟩
  · have q2 : (o1 == o2) = false := ibeq_no h1
    have HE : Hid (decide ((⟨o1, ks, r1, x0, x1, x2, x3⟩ : PN) = ⟨o2, ms, r2, y0, y1, y2, y3⟩) = false) := decN (by intro e; injection e; contradiction)
    clear h1
    go_enter Try.func28, Try.ntmps28
    go_wp2
    go_ret
    exact ⟨ret_bool HE.out.symm, HB.out _ _⟩
theorem two_new (w : World) (o o' : Obj) : Below w.heap.size w ((w.alloc o).alloc o') := ((Below.refl _ _).alloc (Nat.le_refl _) _).alloc (by simp) _
theorem two_then {w w1 : World} {o o' : Obj} {n : Nat} (hb : Below ((w.alloc o).alloc o').heap.size ((w.alloc o).alloc o') w1) (hn : n ≤ w.heap.size) : Below n w w1 :=
  ((two_new w o o').trans (hb.mono (by simp; omega))).mono hn
theorem nodeV_eq (n : PN) (kv : Value) : nodeV n kv = .agg #[.int .i64 n.op, kv, .int .i64 n.rule, .int .u64 n.s0, .int .u64 n.s1, .int .u64 n.s2, .int .u64 n.s3] := rfl
set_option maxHeartbeats 4000000 in
set_option maxRecDepth 100000 in
theorem nodesEq_any (u v : Value) (l m : List PN) (w : World) (hu : NodesAt w u l) (hv : NodesAt w v m) :
    Calls Try.prog 27 #[u, v, .func (.func 28) #[] #[]] w fun e w' => e = .returned (.bool (decide (l = m))) ∧ Below w.heap.size w w' := by
  have HB0 := Lib.hid (Below.refl w.heap.size w)
  obtain ⟨hl, a, ca, rfl, ha⟩ := hu
  obtain ⟨hm, b, cb, rfl, hb⟩ := hv
  unfold maxLen at hl hm
  by_cases hlen : l.length = m.length
  · have q1 : ((l.length : Int) != (m.length : Int)) = false := by rw [hlen]; simp
    go_enter Try.func27, Try.ntmps27
    go_wp2
    go_loopw [17] (fun c wr => ∃ (k : Nat), k ≤ l.length ∧ c = .int .i64 k ∧ Below w.heap.size w wr ∧ l.take k = m.take k) (fun c _ => l.length - (intOf c).toNat)
    case atStart => exact ⟨0, Nat.zero_le _, rfl, HB0.out, rfl⟩
    case round =>
      obtain ⟨k, hk, rfl, hbw, hq⟩ := hrel
      have HQ := Lib.hid hq
      clear hq
      by_cases hlt : k < l.length
      · obtain ⟨x, hx⟩ : ∃ x, l[k]? = some x := ⟨_, List.getElem?_eq_getElem hlt⟩
        obtain ⟨y, hy⟩ : ∃ y, m[k]? = some y := ⟨_, List.getElem?_eq_getElem (by omega)⟩
        rcases ha with h0 | ⟨ab, ao, rfl, hca⟩
        · rw [h0] at hlt; exact absurd hlt (Nat.not_lt_zero _)
        rcases hb with h0 | ⟨bb, bo, rfl, hcb⟩
        · rw [hlen, h0] at hlt; exact absurd hlt (Nat.not_lt_zero _)
        obtain ⟨kv, c0, c1, c2, c3, c4, c5, c6, ci, cl⟩ := (hca k x hx).kept hbw (Nat.le_refl _)
        obtain ⟨kv', d0, d1, d2, d3, d4, d5, d6, di, -⟩ := (hcb k y hy).kept hbw (Nat.le_refl _)
        have hlm : k < m.length := by omega
        have k1 : (k : Int) < (l.length : Int) := by omega
        have k2 : (k : Int) < (m.length : Int) := by omega
        have HX := Lib.hid hx
        have HY := Lib.hid hy
        have HL := Lib.hid hlen
        have HW := Lib.hid hbw
        have hsz := hbw.size
        clear hca hcb hx hy hlen hbw
        have lb := lt_of_cell d0
        have la := lt_of_cell c0
        have CI := Lib.hid ci
        have DI := Lib.hid di
        obtain ⟨ka, kc, rfl, -⟩ := ci
        obtain ⟨ka', kc', rfl, -⟩ := di
        have hC : ∀ (W : World), Below wr.heap.size wr W → Calls Try.prog 28 #[nodeV x (.slice ka x.kids.length kc), nodeV y (.slice ka' y.kids.length kc')] W fun e w' => e = .returned (.bool (decide (x = y))) ∧ Below W.heap.size W w' := fun W hW =>
          sameNode_any x y _ _ W cl (CI.out.kept hW (Nat.le_refl _)) (DI.out.kept hW (Nat.le_refl _))
        simp only [nodeV_eq] at hC
        by_cases hxy : x = y
        · rw [decide_eq_true hxy] at hC
          have HC := Lib.hid hC
          clear hC CI DI
          have HXY := Lib.hid hxy
          clear hxy
          go_wp2_with (go_at_call 28; (with_reducible refine (HC.out _ (two_new wr _ _)).mono ?_); rintro e w1 ⟨rfl, hb⟩; have HW1 := Lib.hid (HW.out.trans (two_then hb hsz)); clear hb)
          go_roundw
          case rel => exact ⟨k + 1, by omega, by go_num, HW1.out, by rw [take_snoc' l k x HX.out, take_snoc' m k y HY.out, HQ.out, HXY.out]⟩
          case measure => simp [intOf]; omega
        · rw [decide_eq_false hxy] at hC
          have HC := Lib.hid hC
          clear hC CI DI
          have HN : Hid (decide (l = m) = false) := decN fun e => by
            have h1 := HX.out
            rw [e, HY.out] at h1
            exact hxy (Option.some.inj h1).symm
          clear hxy
          go_wp2_with (go_at_call 28; (with_reducible refine (HC.out _ (two_new wr _ _)).mono ?_); rintro e w1 ⟨rfl, hb⟩; have HW1 := Lib.hid (HW.out.trans (two_then hb hsz)); clear hb)
          go_ret
          exact ⟨ret_bool HN.out.symm, HW1.out⟩
      · have HN : Hid (decide (l = m) = true) := decY (by
          have hk' : k = l.length := by omega
          have h1 := HQ.out
          rw [List.take_of_length_le (by omega), List.take_of_length_le (by omega)] at h1
          exact h1)
        have k1 : ¬ (k : Int) < (l.length : Int) := by omega
        go_wp2
        go_ret
        exact ⟨ret_bool HN.out.symm, hbw⟩
  · have q1 : ((l.length : Int) != (m.length : Int)) = true := ibne_yes (by omega)
    have HN : Hid (decide (l = m) = false) := decN fun e => hlen (by rw [e])
    go_enter Try.func27, Try.ntmps27
    go_wp2
    go_ret
    exact ⟨ret_bool HN.out.symm, HB0.out⟩
set_option maxHeartbeats 1000000 in
theorem same_any (ru nu rv nv : Value) (rs ts : List PR) (ns ms : List PN) (w : World) (h1 : RulesIn w ru rs) (h2 : NodesAt w nu ns) (h3 : RulesIn w rv ts) (h4 : NodesAt w nv ms) :
    Calls Try.prog 17 #[.agg #[ru, nu], .agg #[rv, nv]] w fun e w' => e = .returned (.bool (decide (rs = ts ∧ ns = ms))) ∧ Below w.heap.size w w' := by
  have HR : Hid (∀ W, Below w.heap.size w W → Calls Try.prog 26 #[ru, rv] W fun e w' => e = .returned (.bool (decide (rs = ts))) ∧ ∃ q, w' = W.drewN q) := Lib.hid fun W hW => rulesEq_any ru rv rs ts W (h1.kept hW (Nat.le_refl _)) (h3.kept hW (Nat.le_refl _))
  have HN : Hid (∀ W, Below w.heap.size w W → Calls Try.prog 27 #[nu, nv, .func (.func 28) #[] #[]] W fun e w' => e = .returned (.bool (decide (ns = ms))) ∧ Below W.heap.size W w') := Lib.hid fun W hW => nodesEq_any nu nv ns ms W (h2.kept hW (Nat.le_refl _)) (h4.kept hW (Nat.le_refl _))
  obtain ⟨-, a1, k1, rfl, -⟩ := h1
  obtain ⟨-, a2, k2, rfl, -⟩ := h2
  obtain ⟨-, a3, k3, rfl, -⟩ := h3
  obtain ⟨-, a4, k4, rfl, -⟩ := h4
  by_cases hr : rs = ts
  · have HE : Hid (decide (rs = ts ∧ ns = ms) = decide (ns = ms)) := Lib.hid (by simp [hr])
    rw [decide_eq_true hr] at HR
    have HL : Hid (rs.length = ts.length) := Lib.hid (by rw [hr])
    clear hr
    go_enter Try.func17, Try.ntmps17
    go_wp2_with (first
      | (go_at_call 26; (with_reducible refine (HR.out _ (two_new w _ _)).mono ?_); rintro e w1 ⟨rfl, q, rfl⟩)
      | (go_at_call 27; (with_reducible refine (HN.out _ (below_drewN (two_new w _ _))).mono ?_); rintro e w1 ⟨rfl, hb⟩; have HW1 := Lib.hid ((below_drewN (m := q) (two_new w _ _)).trans (hb.mono (below_drewN (m := q) (two_new w _ _)).size)); clear hb))
    go_ret
    exact ⟨ret_bool HE.out.symm, HW1.out⟩
  · have HE : Hid (decide (rs = ts ∧ ns = ms) = false) := decN (fun h => hr h.1)
    rw [decide_eq_false hr] at HR
    clear hr
    go_enter Try.func17, Try.ntmps17
    go_wp2_with (go_at_call 26; (with_reducible refine (HR.out _ (two_new w _ _)).mono ?_); rintro e w1 ⟨rfl, q, rfl⟩)
    go_ret
    exact ⟨ret_bool HE.out.symm, below_drewN (two_new w _ _)⟩
end Go.Proofs.Ytbhejkjgebhpoaa
