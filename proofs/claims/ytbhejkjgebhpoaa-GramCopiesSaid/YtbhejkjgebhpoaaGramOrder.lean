/- gram.checkOrder. -/
import Derived.Test.YtbhejkjgebhpoaaGramErr
import Derived.Laws.OwnMore
import Derived.Deep.Cut
import Derived.Lib.SmallJoins
namespace Go.Proofs.Ytbhejkjgebhpoaa
open Go.RowKit
theorem popL_some : ∀ (ks st st' : List Int), popL ks st = some st' → st = ks ++ st'
  | [], st, st', h => by cases h; rfl
  | k :: ks, [], st', h => by cases h
  | k :: ks, x :: st, st', h => by
    have hd : popL (k :: ks) (x :: st) = if k = x then popL ks st else none := rfl
    by_cases e : k = x
    · rw [hd, if_pos e] at h; rw [e, popL_some ks st st' h]; rfl
    · rw [hd, if_neg e] at h; cases h
theorem popL_app : ∀ (ks st' : List Int), popL ks (ks ++ st') = some st'
  | [], _ => rfl
  | k :: ks, st' => by
    show (if k = k then popL ks (ks ++ st') else none) = _
    rw [if_pos rfl, popL_app ks st']
theorem intsV_length (l : List Int) : (intsV l).length = l.length := by unfold intsV; rw [List.length_map]
theorem intsV_append (l m : List Int) : intsV (l ++ m) = intsV l ++ intsV m := by unfold intsV; rw [List.map_append]
theorem intsV_take (l : List Int) (k : Nat) : intsV (l.take k) = (intsV l).take k := by unfold intsV; rw [List.map_take]
/-- An own row, cut behind its first elements. -/
theorem ownsRow_cut {w : World} {base : Nat} {e : TypeId} {a : Option Addr} {n cap k : Nat} {xs : List Value} (h : w.ownsRow base e 1 (.slice a n cap) n xs) (hk : k ≤ n) : w.ownsRow base e 1 (.slice a k cap) k (xs.take k) := by
  obtain ⟨h1, h2⟩ := h
  rcases h2 with ⟨h0, h3⟩ | ⟨g', cap', cur, hv, hg, hh, hn, hcap, hsz, htake⟩
  · injection h0 with e1 e2 e3
    subst e1 e2 e3
    obtain rfl : k = 0 := by omega
    exact ⟨by simp, .inl ⟨rfl, rfl⟩⟩
  · injection hv with e1 e2 e3
    subst e1 e3
    refine ⟨by rw [List.length_take]; omega, .inr ⟨g', cap, cur, rfl, hg, hh, by omega, hcap, hsz, ?_⟩⟩
    rw [← htake, List.take_take, Nat.mul_one, Nat.mul_one, Nat.min_eq_left hk]
theorem ownsRow_slice {w : World} {base : Nat} {e : TypeId} {v : Value} {n : Nat} {xs : List Value} (h : w.ownsRow base e 1 v n xs) : ∃ a cap, v = .slice a n cap ∧ n ≤ cap ∧ (n = 0 ∨ ∃ g, a = some ⟨g, 0, none⟩) ∧ (a = none ∨ ∃ g, a = some ⟨g, 0, none⟩) := by
  obtain ⟨h1, h2⟩ := h
  rcases h2 with ⟨h0, h3⟩ | ⟨g', cap', cur, hv, hg, hh, hn, hcap, hsz, htake⟩
  · subst h3; exact ⟨none, 0, h0, Nat.le_refl _, .inl rfl, .inl rfl⟩
  · exact ⟨_, cap', hv, hn, .inr ⟨g', rfl⟩, .inr ⟨g', rfl⟩⟩
theorem own_ints {w : World} {base : Nat} {a a' : Option Addr} {n cap f c k : Nat} {l : List Int} (h : w.ownsRow base 3 1 (.slice a n cap) n (intsV l)) (hn : l.length = n) (hf : n = f + k) (ha : k = 0 ∨ ∃ g, a = some ⟨g, 0, none⟩ ∧ a' = some ⟨g, f, none⟩) : IntsAt w (.slice a' k c) (l.drop f) := by
  have hl : (l.drop f).length = k := by rw [List.length_drop]; omega
  refine ⟨a', c, by rw [hl], ?_⟩
  rcases ha with h0 | ⟨g, rfl, rfl⟩
  · left; exact List.length_eq_zero_iff.1 (by omega)
  · right
    refine ⟨g, f, rfl, fun i x hx => ?_⟩
    rw [List.getElem?_drop] at hx
    have := h.cells rfl (f + i) (.int .i64 x) (by unfold intsV; rw [List.getElem?_map, hx]; rfl)
    rw [Addr.add_lit, Nat.zero_add] at this; exact this
theorem size_int (w : World) : (sizeOf (Try.prog.elem 28)).run Try.prog w = .ok 1 w := by kernel_rfl
theorem und_ints : Try.prog.underlying 28 = some (.slice (Try.prog.elem 28)) := by kernel_rfl
theorem cut_run (a : Option Addr) (n cap k : Nat) (hk : k ≤ cap) (ha : a = none ∨ ∃ g, a = some ⟨g, 0, none⟩) (w : World) : (Instr.slice 28 (.slice a n cap) none (some (.int .i64 (k : Int))) none).run Try.prog w = .ok (.slice a k cap) w := by
  rw [run_slice_h w 28 a n cap und_ints .i64 (k : Int) (by omega) (by omega), size_int, Result.andThen_ok]
  unfold sliced
  rcases ha with rfl | ⟨g, rfl⟩
  · simp
  · simp [Addr.add]
theorem tail_run (a : Option Addr) (n cap f k : Nat) (hn : n = f + k) (hk : n ≤ cap) (ha : k = 0 ∨ ∃ g, a = some ⟨g, 0, none⟩) : ∃ a', (∀ w, (Instr.slice 28 (.slice a n cap) (some (.int .i64 (f : Int))) (some (.int .i64 (n : Int))) (some (.int .i64 (n : Int)))).run Try.prog w = .ok (.slice a' k k) w) ∧ (k = 0 ∨ ∃ g, a = some ⟨g, 0, none⟩ ∧ a' = some ⟨g, f, none⟩) := by
  rcases Nat.eq_zero_or_pos k with h0 | h0
  · refine ⟨a, fun w => ?_, .inl h0⟩
    rw [run_slice_lhm w 28 a n cap und_ints .i64 .i64 .i64 (f : Int) (n : Int) (n : Int) (by omega) (by omega) (by omega) (by omega), size_int, Result.andThen_ok]
    unfold sliced
    subst h0
    rw [if_pos (by omega), show (n : Int).toNat - (f : Int).toNat = 0 by omega]
  · rcases ha with h | ⟨g, rfl⟩
    · omega
    · refine ⟨some ⟨g, f, none⟩, fun w => ?_, .inr ⟨g, rfl, rfl⟩⟩
      rw [run_slice_lhm w 28 _ n cap und_ints .i64 .i64 .i64 (f : Int) (n : Int) (n : Int) (by omega) (by omega) (by omega) (by omega), size_int, Result.andThen_ok]
      unfold sliced
      rw [if_neg (by omega), show (n : Int).toNat - (f : Int).toNat = k by omega]
      simp [Addr.add]
      intro h; exact h.symm
/-- What the check of the order returns. -/
def OrdIs (b : Bool) (w : World) (e : Ending) (w' : World) : Prop := e = .returned (if b then .nilIface else .iface 62 (.int .i64 10)) ∧ Below w.heap.size w w'
theorem OrdIs.yes {b : Bool} {w w' : World} (h : b = true) (hb : Below w.heap.size w w') : OrdIs b w (.returned .nilIface) w' := by subst h; exact ⟨rfl, hb⟩
theorem OrdIs.no {b : Bool} {w w' : World} (h : b = false) (hb : Below w.heap.size w w') : OrdIs b w (.returned (.iface 62 (.int .i64 10))) w' := by subst h; exact ⟨rfl, hb⟩
set_option maxHeartbeats 8000000 in
set_option maxRecDepth 100000 in
theorem corder_any (rv nv : Value) (rs : List PR) (ns : List PN) (w : World) (hR : RulesIn w rv rs) (hN : NodesAt w nv ns) (hs : ns.length ≤ 1000000) (hsr : rs.length ≤ 1000000) :
    Calls Try.prog 32 #[.agg #[rv, nv]] w (OrdIs (runO rs ns 0 [] 0) w) := by
  obtain ⟨i0, hi0, hz0, hz1, hz2⟩ := info_parts infoInt
  obtain ⟨-, ra, rc, rfl, hra⟩ := hR
  obtain ⟨-, na, nc, rfl, hna⟩ := hN
  have HO := Lib.hid (one_new w)
  go_enter Try.func32, Try.ntmps32
  go_wp2
  go_loopw [3, 4, 11] (fun vs vr vc wr => ∃ (i r : Nat) (st : List Int), i ≤ ns.length ∧ r ≤ rs.length ∧ vc = .int .i64 i ∧ vr = .int .i64 r ∧ st.length ≤ i ∧ runO rs ns 0 [] 0 = runO rs (ns.drop i) i st r ∧ wr.ownsRow (w.heap.size + 1) 3 1 vs st.length (intsV st.reverse) ∧ Below w.heap.size w wr ∧ w.heap.size < wr.heap.size ∧ wr.cell? ⟨w.heap.size, 0, none⟩ = some (.slice ra rs.length rc) ∧ wr.cell? ⟨w.heap.size, 1, none⟩ = some (.slice na ns.length nc)) (fun _ _ vc _ => ns.length - (intOf vc).toNat)
  case atStart => exact ⟨0, 0, [], Nat.zero_le _, Nat.zero_le _, rfl, rfl, Nat.le_refl _, rfl, World.ownsRow_nil _ _ _ _, HO.out _, by simp, by simp, by simp⟩
  case round =>
    obtain ⟨i, r, st, hi, hr, rfl, rfl, hst, ho, how, hbw, hsw, b0, b1⟩ := hrel
    have HRO := Lib.hid ho
    clear ho
    obtain ⟨a, cap, rfl, hcap, ha1, ha2⟩ := ownsRow_slice how
    have HW := Lib.hid hbw
    have hszw := hbw.size
    by_cases hlt : i < ns.length
    · obtain ⟨n, hn⟩ : ∃ n, ns[i]? = some n := ⟨_, List.getElem?_eq_getElem hlt⟩
      have hdr : ns.drop i = n :: ns.drop (i + 1) := by
        obtain ⟨h1, h2⟩ := List.getElem?_eq_some_iff.1 hn
        rw [List.drop_eq_getElem_cons h1, h2]
      rw [hdr] at HRO
      rcases hna with h0 | ⟨nb, no, rfl, hca⟩
      · rw [h0] at hlt; exact absurd hlt (Nat.not_lt_zero _)
      obtain ⟨kv, c0, c1, c2, c3, c4, c5, c6, ci, cl⟩ := (hca i n hn).kept hbw (Nat.le_refl _)
      have CI := Lib.hid ci
      obtain ⟨ka, kc, rfl, -⟩ := ci
      have lb := lt_of_cell c0
      have k1 : (i : Int) < (ns.length : Int) := by omega
      unfold maxLen at cl
      have HOW := Lib.hid how
      clear hdr hca hn hbw how
      by_cases hkl : n.kids.length ≤ st.length
      · obtain ⟨f, hf⟩ : ∃ f, st.length = f + n.kids.length := ⟨st.length - n.kids.length, by omega⟩
        obtain ⟨a', hta, haa⟩ := tail_run a st.length cap f n.kids.length hf hcap (ha1.imp (fun h => by omega) id)
        have hcut := cut_run a st.length cap f (by omega) ha2
        have df : decide ((f : Int) < 0) = false := decide_eq_false (by omega)
        have ef : (st.length : Int) - (n.kids.length : Int) = (f : Int) := by omega
        have hq := fun (o : Obj) (q : Nat) => intsEq_any (.slice a' n.kids.length n.kids.length) (.slice ka n.kids.length kc) (st.reverse.drop f) n.kids ((wr.alloc o).drewN q) (by rw [List.length_drop, List.length_reverse]; unfold maxLen; omega) (own_ints (HOW.out.alloc o) (by rw [List.length_reverse]) hf haa) (CI.out.kept (below_drewN (one_new wr o)) (Nat.le_refl _))
        have HQ := Lib.hid hq
        have HF := Lib.hid hf
        clear hq haa hf
        cases hp : popL n.kids.reverse st with
        | none =>
          have HD : Hid (decide (st.reverse.drop f = n.kids) = false) := decN (fun e => by
            have h1 := List.take_append_drop f st.reverse
            rw [e] at h1
            have h2 := congrArg List.reverse h1
            rw [List.reverse_append, List.reverse_reverse] at h2
            rw [← h2, popL_app] at hp; cases hp)
          rw [HD.out] at HQ
          have HR : Hid (runO rs ns 0 [] 0 = false) := Lib.hid (by rw [HRO.out, runO_none (stepO_none hp)])
          clear hp
          go_wp2
          go_quiet ((go_at_call 37; exact Calls.quiet_of (HQ.out _ _)))
          go_wp2
          go_ret
          exact OrdIs.no HR.out (below_drewN (HW.out.alloc hszw _))
        | some st' =>
          have hst2 := popL_some _ _ _ hp
          have hf2 : st'.length = f := by
            have h1 := congrArg List.length hst2
            rw [List.length_append, List.length_reverse, HF.out] at h1; omega
          have hrv : st.reverse = st'.reverse ++ n.kids := by rw [hst2, List.reverse_append, List.reverse_reverse]
          have HD : Hid (decide (st.reverse.drop f = n.kids) = true) := decY (by
            rw [hrv, List.drop_append_of_le_length (by rw [List.length_reverse]; omega), List.drop_of_length_le (by rw [List.length_reverse]; omega)]; rfl)
          rw [HD.out] at HQ
          have HC : Hid (wr.ownsRow (w.heap.size + 1) 3 1 (.slice a f cap) f (intsV st'.reverse)) := Lib.hid (by
            have h1 := ownsRow_cut (k := f) HOW.out (by have := HF.out; omega)
            rw [← intsV_take, hrv, List.take_append_of_le_length (by rw [List.length_reverse]; omega), List.take_of_length_le (by rw [List.length_reverse]; omega)] at h1
            exact h1)
          have HP := Lib.hid hp
          have HF2 := Lib.hid hf2
          have hfi : f ≤ i := by omega
          clear hp hst2 hrv hf2
          go_wp2
          go_quiet ((go_at_call 37; exact Calls.quiet_of (HQ.out _ _)))
          obtain ⟨W2, hW2⟩ : ∃ W2, ((wr.alloc (.cells #[.int .i64 n.op, .slice ka n.kids.length kc, .int .i64 n.rule, .int .u64 n.s0, .int .u64 n.s1, .int .u64 n.s2, .int .u64 n.s3] 38)).drewN nq) = W2 := ⟨_, rfl⟩
          have hb2 : Below wr.heap.size wr W2 := by rw [← hW2]; exact below_drewN (one_new wr _)
          rw [hW2]
          have HC2 := Lib.hid (ownsRow_grown HC.out hb2)
          have HW2 := Lib.hid (HW.out.trans (hb2.mono hszw))
          have b0' := (bcell hb2).1 _ 0 hsw
          have b1' := (bcell hb2).1 _ 1 hsw
          rw [b0] at b0'
          rw [b1] at b1'
          have hsw2 := Nat.lt_of_lt_of_le hsw hb2.size
          clear hW2 hb2 b0 b1 c0 c1 c2 c3 c4 c5 c6 hta
          go_upto_region 10 with (at_builtin; refine wpList_append_own _ rfl _ _ 28 rfl (w.heap.size + 1) 3 i0 (.int .i64 0) 1 8 Try.underlying28 hi0 hz0 hz1 hz2 rfl (by decide) _ _ _ rfl (HC2.out.alloc _) ⟨W2.heap.size, 0, none⟩ 1 1 [.int .i64 (i : Int)] rfl rfl (cell_one_new W2 _ _) (ints_oneCell .i64 [(i : Int)]) (by unfold maxLen; omega) (by omega) (by simp; omega) ?_; intro v' w1 hown' hgrow _)
          have hne : some w.heap.size ≠ (Value.slice a f cap).ownBlock := fun e => by have := (HC2.out.lt _ e.symm).1; omega
          have hbw1 : Below w.heap.size w w1 := (HW2.out.alloc (Nat.le_of_lt hsw2) _).grown hgrow (by simp; omega) (fun k e => by have := (HC2.out.lt _ e).1; omega)
          have b0w : w1.cell? ⟨w.heap.size, 0, none⟩ = some (.slice ra rs.length rc) := hgrow.cell (a := ⟨w.heap.size, 0, none⟩) (by rw [((bcell (one_new W2 _)).1 _ 0 hsw2)]; exact b0') hne
          have b1w : w1.cell? ⟨w.heap.size, 1, none⟩ = some (.slice (some ⟨nb, no, none⟩) ns.length nc) := hgrow.cell (a := ⟨w.heap.size, 1, none⟩) (by rw [((bcell (one_new W2 _)).1 _ 1 hsw2)]; exact b1') hne
          have hsw1 : w.heap.size < w1.heap.size := Nat.lt_of_lt_of_le (by simp; omega) hgrow.size
          have hrv2 : intsV st'.reverse ++ [.int .i64 (i : Int)] = intsV ((i : Int) :: st').reverse := by rw [List.reverse_cons, intsV_append]; rfl
          rw [hrv2] at hown'
          have HOW1 := Lib.hid hown'
          have HW1 := Lib.hid hbw1
          obtain ⟨a2, cap2, rfl, hcap2, ha3, ha4⟩ := ownsRow_slice hown'
          clear hcut hne hbw1 b0' b1' hrv2 hown' hgrow HC2 HW2 HC HOW hcap ha1 ha2
          cases hrx : rs[r]? with
          | none =>
            have hrl : r = rs.length := by
              have := List.getElem?_eq_none_iff.1 hrx; omega
            have HS := Lib.hid (runO_some (ns := ns.drop (i + 1)) (stepO_end (i := (i : Int)) HP.out hrx))
            have k2 : ¬ (r : Int) < (rs.length : Int) := by omega
            clear hrx
            go_wp2
            go_roundw
            case rel => exact ⟨i + 1, r, (i : Int) :: st', by omega, hr, by go_num, rfl, by have := HF2.out; simp; omega, by rw [HRO.out, HS.out]; rfl, by rw [List.length_cons, HF2.out]; exact HOW1.out, HW1.out, hsw1, b0w, b1w⟩
            case measure => simp [intOf]; omega
          | some x =>
            have hrl := (List.getElem?_eq_some_iff.1 hrx).1
            rcases hra with h0 | ⟨rb, ro, rfl, hca⟩
            · rw [h0] at hrl; exact absurd hrl (Nat.not_lt_zero _)
            obtain ⟨d0, d1⟩ := (hca r x hrx).kept HW1.out (Nat.le_refl _)
            have k2 : (r : Int) < (rs.length : Int) := by omega
            by_cases hxi : x.root = i
            · have q1 : (x.root == (i : Int)) = true := by rw [hxi]; simp
              cases st' with
              | nil =>
                have hf0 : f = 0 := HF2.out.symm
                subst hf0
                have HS := Lib.hid (runO_some (ns := ns.drop (i + 1)) (stepO_root HP.out hrx hxi))
                have hcut0 := cut_run a2 (0 + 1) cap2 0 (Nat.zero_le _) ha4
                have HOW0 := Lib.hid (ownsRow_cut (k := 0) HOW1.out (Nat.zero_le _))
                clear hrx hxi hca d0
                go_wp2
                go_roundw
                case rel => exact ⟨i + 1, r + 1, [], by omega, by omega, by go_num, by go_num, Nat.zero_le _, by rw [HRO.out, HS.out]; rfl, HOW0.out, HW1.out, hsw1, b0w, b1w⟩
                case measure => simp [intOf]; omega
              | cons y st'' =>
                have hf1 : 1 ≤ f := by have := HF2.out; simp at this; omega
                have HS := Lib.hid (runO_none (ns := ns.drop (i + 1)) (stepO_left HP.out hrx hxi))
                have HFN : Hid (runO rs ns 0 [] 0 = false) := Lib.hid (by rw [HRO.out, HS.out])
                have k3 : (1 : Int) < ((f + 1 : Nat) : Int) := by omega
                have k4 : 1 < f + 1 := by omega
                have k5 : 0 < f := by omega
                clear hrx hxi hca d0
                go_wp2
                go_ret
                exact OrdIs.no HFN.out HW1.out
            · have q1 : (x.root == (i : Int)) = false := ibeq_no hxi
              have HS := Lib.hid (runO_some (ns := ns.drop (i + 1)) (stepO_in HP.out hrx hxi))
              clear hrx hxi hca d0
              go_wp2
              go_roundw
              case rel => exact ⟨i + 1, r, (i : Int) :: st', by omega, hr, by go_num, rfl, by have := HF2.out; simp; omega, by rw [HRO.out, HS.out]; rfl, by rw [List.length_cons, HF2.out]; exact HOW1.out, HW1.out, hsw1, b0w, b1w⟩
              case measure => simp [intOf]; omega
      · have hp : popL n.kids.reverse st = none := by
          cases hp : popL n.kids.reverse st with
          | none => rfl
          | some st' =>
            have h1 := congrArg List.length (popL_some _ _ _ hp)
            rw [List.length_append, List.length_reverse] at h1; omega
        have HR : Hid (runO rs ns 0 [] 0 = false) := Lib.hid (by rw [HRO.out, runO_none (stepO_none hp)])
        obtain ⟨z, hz⟩ : ∃ z : Int, (st.length : Int) - (n.kids.length : Int) = z := ⟨_, rfl⟩
        have df : decide (z < 0) = true := decide_eq_true (by omega)
        clear hp
        go_wp2
        go_quiet (fail)
        go_wp2
        go_ret
        exact OrdIs.no HR.out (below_drewN (HW.out.alloc hszw _))
    · obtain rfl : i = ns.length := by omega
      have k1 : ¬ (ns.length : Int) < (ns.length : Int) := by omega
      have HE : Hid (runO rs ns 0 [] 0 = (st.isEmpty && decide (rs.length ≤ r))) := Lib.hid (by rw [HRO.out, List.drop_length]; rfl)
      clear how hbw
      cases st with
      | nil =>
        by_cases hrl : r < rs.length
        · have k2 : (r : Int) < (rs.length : Int) := by omega
          have HF : Hid (runO rs ns 0 [] 0 = false) := Lib.hid (by rw [HE.out, decide_eq_false (by omega)]; rfl)
          go_wp2
          go_ret
          exact OrdIs.no HF.out HW.out
        · have k2 : ¬ (r : Int) < (rs.length : Int) := by omega
          have HF : Hid (runO rs ns 0 [] 0 = true) := Lib.hid (by rw [HE.out, decide_eq_true (by omega)]; rfl)
          go_wp2
          go_ret
          exact OrdIs.yes HF.out HW.out
      | cons x st =>
        have HF : Hid (runO rs ns 0 [] 0 = false) := Lib.hid (by rw [HE.out]; rfl)
        obtain ⟨m, hm⟩ : ∃ m, (x :: st).length = m := ⟨_, rfl⟩
        have k2 : (0 : Int) < (m : Int) := by rw [← hm]; simp
        have k3 : 0 < m := by omega
        rw [hm] at *
        clear hm
        go_wp2
        go_ret
        exact OrdIs.no HF.out HW.out
end Go.Proofs.Ytbhejkjgebhpoaa
