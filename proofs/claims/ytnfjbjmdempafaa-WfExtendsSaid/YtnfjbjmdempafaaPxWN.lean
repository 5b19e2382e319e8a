/- The needs of nodes and their loops, by the least facts; a grammar with nodes more. No walk. wf: null, repeatsNothing, needs. wf: where, at its three types, with -/
import Derived.Deep.CutRange
import Derived.Test.YtnfjbjmdempafaaPxFM
import Derived.Test.YtnfjbjmdempafaaPxFlowRN
namespace Go.Proofs.Ytnfjbjmdempafaa
/-- The kids of a sequence that it needs. -/
def seqNd (L : List Fc) : List Int → List Int
  | [] => []
  | k :: r => k :: (if (atF L k).nul then seqNd L r else [])
def needN (rs : List PR) (L : List Fc) (n : PN) : List Int := if n.op = 2 then [rootF rs n.rule] else if n.op = 3 then seqNd L n.kids else n.kids
def loopN (L : List Fc) (n : PN) : Bool := decide (n.op = 5 ∨ n.op = 6) && (atF L (n.kids.headD (-1))).nul
def needW (rs : List PR) (ns : List PN) (L : List Fc) (i : Nat) : List Nat := match ns[i]? with
  | some n => (needN rs L n).map Int.toNat
  | none => []
def loopW (ns : List PN) (L : List Fc) (i : Nat) : Bool := match ns[i]? with
  | some n => loopN L n
  | none => false
theorem needW_at {rs : List PR} {ns : List PN} {L : List Fc} {i : Nat} {n : PN} (h : ns[i]? = some n) : needW rs ns L i = (needN rs L n).map Int.toNat := by unfold needW; rw [h]
theorem loopW_at {ns : List PN} {L : List Fc} {i : Nat} {n : PN} (h : ns[i]? = some n) : loopW ns L i = loopN L n := by unfold loopW; rw [h]
theorem seqNd_sub (L : List Fc) : ∀ (ks : List Int) (k : Int), k ∈ seqNd L ks → k ∈ ks
  | [], _, h => by cases h
  | x :: r, k, h => by
    unfold seqNd at h
    rcases List.mem_cons.1 h with rfl | h
    · exact List.mem_cons_self ..
    · split at h
      · exact List.mem_cons_of_mem _ (seqNd_sub L r k h)
      · cases h
theorem needN_in {rs : List PR} {L : List Fc} {n : PN} {N : Nat} (h : NodeIn rs N n) {k : Int} (hk : k ∈ needN rs L n) : 0 ≤ k ∧ k < (N : Int) := by
  unfold needN at hk
  split at hk
  · rename_i h2
    obtain ⟨r, x, e, hx, h1, h3⟩ := h.root h2
    obtain rfl := List.mem_singleton.1 hk
    rw [e, rootF_at hx]
    exact ⟨h1, h3⟩
  · split at hk
    · exact h.kid k (seqNd_sub _ _ _ hk)
    · exact h.kid k hk
theorem needW_in {rs : List PR} {ns : List PN} {L : List Fc} (h : ∀ n, n ∈ ns → NodeIn rs ns.length n) : ∀ i, i < ns.length → ∀ j, j ∈ needW rs ns L i → j < ns.length := fun i hi j hj => by
  have hn : ns[i]? = some ns[i] := List.getElem?_eq_getElem hi
  rw [needW_at hn] at hj
  obtain ⟨k, hk, rfl⟩ := List.mem_map.1 hj
  have := needN_in (h _ (List.getElem_mem hi)) hk
  omega
/- A grammar with more rules and nodes: nothing changes for the nodes that were there. -/
theorem atF_same {l l' : List Fc} {N : Nat} (h : ∀ i, i < N → l'[i]? = l[i]?) {k : Int} (h0 : 0 ≤ k) (h1 : k < (N : Int)) : atF l' k = atF l k := by
  obtain ⟨i, rfl⟩ : ∃ i : Nat, k = i := ⟨k.toNat, by omega⟩
  rw [atF_nat, atF_nat, h i (by omega)]
theorem node_ext {rs rs' : List PR} {n : PN} {l l' : List Fc} {N : Nat} (hn : NodeIn rs N n) (hr : ∀ (r : Nat) x, rs[r]? = some x → rs'[r]? = some x) (h : ∀ i, i < N → l'[i]? = l[i]?) : nodeF rs' n l' = nodeF rs n l := by
  have hk : ∀ k, k ∈ n.kids → atF l' k = atF l k := fun k hk => atF_same h (hn.kid k hk).1 (hn.kid k hk).2
  have hm : n.kids.map (atF l') = n.kids.map (atF l) := List.map_congr_left hk
  unfold nodeF
  rw [hm]
  by_cases h2 : n.op = 2
  · obtain ⟨r, x, e, hx, h1, h3⟩ := hn.root h2
    rw [e, rootF_at hx, rootF_at (hr r x hx), atF_same h h1 h3, if_pos h2, if_pos h2]
  · rw [if_neg h2, if_neg h2]
    by_cases h5 : 5 ≤ n.op
    · obtain ⟨k, e⟩ := hn.ok.one h5
      rw [e]
      show (if _ then _ else if _ then _ else if _ then _ else if _ then _ else singF n.op (atF l' k)) = (if _ then _ else if _ then _ else if _ then _ else if _ then _ else singF n.op (atF l k))
      rw [hk k (by rw [e]; exact List.mem_singleton.2 rfl)]
    · have := hn.ok.lo
      by_cases h0 : n.op = 0
      · rw [if_pos h0, if_pos h0]
      · by_cases h1 : n.op = 1
        · rw [if_neg h0, if_neg h0, if_pos h1, if_pos h1]
        · by_cases h3 : n.op = 3
          · rw [if_neg h0, if_neg h0, if_neg h1, if_neg h1, if_pos h3, if_pos h3]
          · have h4 : n.op = 4 := by omega
            rw [if_neg h0, if_neg h0, if_neg h1, if_neg h1, if_neg h3, if_neg h3, if_pos h4, if_pos h4]
theorem itrF_ext {rs rs' : List PR} {ns ns' : List PN} (hin : ∀ n, n ∈ ns → NodeIn rs ns.length n) (hr : ∀ (r : Nat) x, rs[r]? = some x → rs'[r]? = some x) (hn : ∀ (i : Nat) n, ns[i]? = some n → ns'[i]? = some n) : ∀ (k i : Nat), i < ns.length → (itrF rs' ns' k)[i]? = (itrF rs ns k)[i]?
  | 0, i, hi => by
    have h1 := hn i _ (List.getElem?_eq_getElem hi)
    have := (List.getElem?_eq_some_iff.1 h1).1
    show (List.replicate _ _)[i]? = (List.replicate _ _)[i]?
    rw [List.getElem?_replicate, List.getElem?_replicate, if_pos this, if_pos hi]
  | k + 1, i, hi => by
    have h1 : ns[i]? = some ns[i] := List.getElem?_eq_getElem hi
    show (stepF rs' ns' _)[i]? = (stepF rs ns _)[i]?
    rw [stepF_at h1, stepF_at (hn i _ h1), node_ext (hin _ (List.getElem_mem hi)) hr (itrF_ext hin hr hn k)]
theorem lfp_stay (rs : List PR) (ns : List PN) (d : Nat) : itrF rs ns (3 * ns.length + d) = lfp rs ns := itrF_stay (lfp_fix rs ns) d
theorem lfp_ext {rs rs' : List PR} {ns ns' : List PN} (hin : ∀ n, n ∈ ns → NodeIn rs ns.length n) (hr : ∀ (r : Nat) x, rs[r]? = some x → rs'[r]? = some x) (hn : ∀ (i : Nat) n, ns[i]? = some n → ns'[i]? = some n) (hl : ns.length ≤ ns'.length) {i : Nat} (hi : i < ns.length) : (lfp rs' ns')[i]? = (lfp rs ns)[i]? := by
  unfold lfp
  rw [itrF_ext hin hr hn _ i hi, show 3 * ns'.length = 3 * ns.length + 3 * (ns'.length - ns.length) by omega, lfp_stay]
  rfl
theorem seqNd_ext {L L' : List Fc} : ∀ {ks : List Int}, (∀ k, k ∈ ks → atF L' k = atF L k) → seqNd L' ks = seqNd L ks
  | [], _ => rfl
  | x :: r, h => by
    unfold seqNd
    rw [h x (List.mem_cons_self ..), seqNd_ext fun k hk => h k (List.mem_cons_of_mem _ hk)]
theorem need_ext {rs rs' : List PR} {ns ns' : List PN} {L L' : List Fc} (hin : ∀ n, n ∈ ns → NodeIn rs ns.length n) (hr : ∀ (r : Nat) x, rs[r]? = some x → rs'[r]? = some x) (hn : ∀ (i : Nat) n, ns[i]? = some n → ns'[i]? = some n) (hL : ∀ i, i < ns.length → L'[i]? = L[i]?) (i : Nat) (hi : i < ns.length) : needW rs' ns' L' i = needW rs ns L i ∧ loopW ns' L' i = loopW ns L i := by
  have h1 : ns[i]? = some ns[i] := List.getElem?_eq_getElem hi
  have hI := hin _ (List.getElem_mem hi)
  have hk : ∀ k, k ∈ ns[i].kids → atF L' k = atF L k := fun k hk => atF_same hL (hI.kid k hk).1 (hI.kid k hk).2
  rw [needW_at h1, needW_at (hn i _ h1), loopW_at h1, loopW_at (hn i _ h1)]
  constructor
  · unfold needN
    by_cases h2 : ns[i].op = 2
    · obtain ⟨r, x, e, hx, -, -⟩ := hI.root h2
      rw [if_pos h2, if_pos h2, e, rootF_at hx, rootF_at (hr r x hx)]
    · rw [if_neg h2, if_neg h2, seqNd_ext hk]
  · unfold loopN
    by_cases h5 : 5 ≤ ns[i].op
    · obtain ⟨k, e⟩ := hI.ok.one h5
      rw [e]
      show (_ && (atF L' k).nul) = (_ && (atF L k).nul)
      rw [hk k (by rw [e]; exact List.mem_singleton.2 rfl)]
    · rw [decide_eq_false (by omega)]; rfl
/-- A grammar with more rules and nodes has the same well-formed nodes among the old ones. -/
theorem wf_ext {rs rs' : List PR} {ns ns' : List PN} (hin : ∀ n, n ∈ ns → NodeIn rs ns.length n) (hr : ∀ (r : Nat) x, rs[r]? = some x → rs'[r]? = some x) (hn : ∀ (i : Nat) n, ns[i]? = some n → ns'[i]? = some n) (hl : ns.length ≤ ns'.length) {i : Nat} (hi : i < ns.length) :
    WfG (needW rs' ns' (lfp rs' ns')) (loopW ns' (lfp rs' ns')) i ↔ WfG (needW rs ns (lfp rs ns)) (loopW ns (lfp rs ns)) i :=
  WfG.same (needW_in hin) (need_ext hin hr hn fun _ hi => lfp_ext hin hr hn hl hi) hi
theorem wf_call {rs : List PR} {ns : List PN} {L : List Fc} {i : Nat} {n : PN} (h : ns[i]? = some n) (h2 : n.op = 2) : WfG (needW rs ns L) (loopW ns L) i ↔ WfG (needW rs ns L) (loopW ns L) (rootF rs n.rule).toNat := by
  rw [WfG.iff, needW_at h, loopW_at h]
  unfold needN loopN
  rw [if_pos h2, decide_eq_false (by omega)]
  simp
theorem wf_kid {rs : List PR} {ns : List PN} {L : List Fc} {i : Nat} {n : PN} {k : Int} (h : ns[i]? = some n) (h7 : 7 ≤ n.op) (hk : n.kids = [k]) : WfG (needW rs ns L) (loopW ns L) i ↔ WfG (needW rs ns L) (loopW ns L) k.toNat := by
  rw [WfG.iff, needW_at h, loopW_at h]
  unfold needN loopN
  rw [if_neg (by omega), if_neg (by omega), hk, decide_eq_false (by omega)]
  simp
end Go.Proofs.Ytnfjbjmdempafaa
namespace Go.Proofs.Ytnfjbjmdempafaa
open Go.RowKit
theorem wnull_any (v : Value) (l : List Fc) (i : Int) (w : World) (h : FactsAt w v l) :
    Calls Try.prog 48 #[v, .int .i64 i] w fun e w' => e = .returned (.bool (atF l i).nul) ∧ w' = w := by
  obtain ⟨a, c, rfl⟩ := h.slice
  by_cases h0 : i < 0
  · rw [atF_neg h0]
    have k0 : ¬ (0 : Int) ≤ i := by omega
    go_enter Try.func48, Try.ntmps48
    go_wp2
    go_ret
    exact ⟨rfl, rfl⟩
  · have k0 : (0 : Int) ≤ i := by omega
    by_cases h1 : (l.length : Int) ≤ i
    · rw [atF_big h1]
      have k1 : ¬ i < (l.length : Int) := by omega
      go_enter Try.func48, Try.ntmps48
      go_wp2
      go_ret
      exact ⟨rfl, rfl⟩
    · obtain ⟨k, rfl⟩ : ∃ k : Nat, i = k := ⟨i.toNat, by omega⟩
      have hk : k < l.length := by omega
      obtain ⟨f, hf⟩ : ∃ f, l[k]? = some f := ⟨_, List.getElem?_eq_getElem hk⟩
      rw [atF_some hf]
      obtain ⟨b, off, rfl, c0, -, -⟩ := h.at hf
      have hlt := lt_of_cell c0
      have k1 : (k : Int) < (l.length : Int) := by omega
      clear h hf
      go_enter Try.func48, Try.ntmps48
      go_wp2
      go_ret
      exact ⟨rfl, rfl⟩
theorem IntsAt.cell {w : World} {a : Option Addr} {n c : Nat} {l : List Int} {i : Nat} {x : Int} (h : IntsAt w (.slice a n c) l) (hx : l[i]? = some x) : ∃ b off, a = some ⟨b, off, none⟩ ∧ w.cell? ⟨b, off + i, none⟩ = some (.int .i64 x) := by
  obtain ⟨a', c', e, h⟩ := h
  injection e with e1 e2 e3
  subst e1
  rcases h with h | ⟨b, off, rfl, hc⟩
  · rw [h] at hx; simp at hx
  · exact ⟨b, off, rfl, hc i x hx⟩
theorem wreps_any (n : PN) (ka : Option Addr) (kc : Nat) (v : Value) (L : List Fc) (w : World) (hK : IntsAt w (.slice ka n.kids.length kc) n.kids) (hF : FactsAt w v L) (h5 : 5 ≤ n.op → ∃ k, n.kids = [k]) :
    Calls Try.prog 30 #[.agg #[.int .i64 n.op, .slice ka n.kids.length kc, .int .i64 n.rule, .int .u64 n.s0, .int .u64 n.s1, .int .u64 n.s2, .int .u64 n.s3], v] w fun e w' => e = .returned (.bool (loopN L n)) ∧ Below w.heap.size w w' := by
  have hone := Lib.hid (one_new w (.cells #[.int .i64 n.op, .slice ka n.kids.length kc, .int .i64 n.rule, .int .u64 n.s0, .int .u64 n.s1, .int .u64 n.s2, .int .u64 n.s3] 35))
  by_cases e56 : n.op = 5 ∨ n.op = 6
  · obtain ⟨k, hk⟩ := h5 (by omega)
    obtain ⟨b, off, rfl, c0⟩ := hK.cell (i := 0) (x := k) (by rw [hk]; rfl)
    rw [Nat.add_zero] at c0
    have hl := lt_of_cell c0
    have hres := Lib.hid (show loopN L n = (atF L k).nul by unfold loopN; rw [hk, decide_eq_true e56]; rfl)
    have HN := Lib.hid (wnull_any v L k _ (hF.below hone.out))
    rw [show n.kids.length = 1 by rw [hk]; rfl] at HN ⊢
    clear hK hF h5 hk
    rcases e56 with e | e <;> rw [e] at HN ⊢ <;> clear e
    all_goals
      go_enter Try.func30, Try.ntmps30
      go_wp2_with (go_at_call 48; (with_reducible refine HN.out.mono ?_); rintro e w2 ⟨rfl, hw⟩; obtain rfl := hw.symm; clear hw)
      go_ret
      exact ⟨ret_bool hres.out.symm, one_new _ _⟩
  · have q5 : (n.op == 5) = false := ibeq_no (by omega)
    have q6 : (n.op == 6) = false := ibeq_no (by omega)
    have hres := Lib.hid (show loopN L n = false by unfold loopN; rw [decide_eq_false e56]; rfl)
    clear hK hF h5
    go_enter Try.func30, Try.ntmps30
    go_wp2
    go_ret
    exact ⟨ret_bool hres.out.symm, one_new _ _⟩
theorem seqNd_all (L : List Fc) : ∀ (ks : List Int), (∀ k, k ∈ ks → (atF L k).nul = true) → seqNd L ks = ks
  | [], _ => rfl
  | x :: r, h => by
    unfold seqNd
    rw [h x (List.mem_cons_self ..), if_pos rfl, seqNd_all L r fun k hk => h k (List.mem_cons_of_mem _ hk)]
theorem seqNd_cut (L : List Fc) : ∀ (ks : List Int) (m : Nat) (x : Int), (∀ k, k ∈ ks.take m → (atF L k).nul = true) → ks[m]? = some x → (atF L x).nul = false → seqNd L ks = ks.take (m + 1)
  | [], m, x, _, h, _ => by simp at h
  | y :: r, 0, x, _, h, hx => by
    obtain rfl : y = x := by simpa using h
    unfold seqNd
    rw [hx]; rfl
  | y :: r, m + 1, x, hy, h, hx => by
    unfold seqNd
    rw [hy y (by simp), if_pos rfl, seqNd_cut L r m x (fun k hk => hy k (by rw [List.take_succ_cons]; exact List.mem_cons_of_mem _ hk)) (by simpa using h) hx, List.take_succ_cons]
theorem IntsAt.take {w : World} {a : Option Addr} {n c m : Nat} {l : List Int} (h : IntsAt w (.slice a n c) l) (hm : m ≤ l.length) : IntsAt w (.slice a m c) (l.take m) := by
  obtain ⟨a', c', e, h⟩ := h
  injection e with e1 e2 e3
  subst e1 e3
  refine ⟨a, c, by rw [List.length_take, Nat.min_eq_left hm], ?_⟩
  rcases h with h | ⟨b, off, rfl, hc⟩
  · left; rw [h]; simp
  · refine .inr ⟨b, off, rfl, fun i x hx => hc i x ?_⟩
    rw [List.getElem?_take] at hx
    split at hx
    · exact hx
    · cases hx
/-- What needs answers: a slice that holds the needs of the node, the node's own list or a new one. -/
def NeedsIs (rs : List PR) (L : List Fc) (n : PN) (ka : Option Addr) (kc : Nat) (w : World) (e : Ending) (w' : World) : Prop := ∃ a c, e = .returned (.slice a (needN rs L n).length c) ∧ IntsAt w' (.slice a (needN rs L n).length c) (needN rs L n) ∧ Below w.heap.size w w' ∧
  ((a = ka ∧ c = kc ∧ needN rs L n = n.kids.take (needN rs L n).length) ∨ ∃ X x, a = some ⟨X, 0, none⟩ ∧ c = 1 ∧ needN rs L n = [x] ∧ w.heap.size ≤ X)
theorem NeedsIs.kids {rs : List PR} {L : List Fc} {n : PN} {w w' : World} {l : List Int} {a : Option Addr} {m c : Nat} (h : needN rs L n = l) (hi : IntsAt w' (.slice a m c) l) (ht : l = n.kids.take m) (hb : Below w.heap.size w w') : NeedsIs rs L n a c w (.returned (.slice a m c)) w' := by
  subst h
  obtain ⟨a', c', e, h2⟩ := id hi
  injection e with e1 e2 e3
  subst e2
  exact ⟨a, c, rfl, hi, hb, .inl ⟨rfl, rfl, ht⟩⟩
theorem NeedsIs.one {rs : List PR} {L : List Fc} {n : PN} {w w' : World} {x : Int} {X : Nat} {ka : Option Addr} {kc : Nat} (h : needN rs L n = [x]) (hi : IntsAt w' (.slice (some ⟨X, 0, none⟩) 1 1) [x]) (hX : w.heap.size ≤ X) (hb : Below w.heap.size w w') : NeedsIs rs L n ka kc w (.returned (.slice (some ⟨X, 0, none⟩) 1 1)) w' := by
  unfold NeedsIs
  rw [h]
  exact ⟨_, _, rfl, hi, hb, .inr ⟨X, x, rfl, rfl, rfl, hX⟩⟩
set_option maxHeartbeats 4000000 in
set_option maxRecDepth 100000 in
theorem wneeds_any (rv nv v : Value) (rs : List PR) (N : Nat) (L : List Fc) (n : PN) (ka : Option Addr) (kc : Nat) (w : World) (hR : RulesIn w rv rs) (hK : IntsAt w (.slice ka n.kids.length kc) n.kids) (hc : n.kids.length ≤ kc) (hl : n.kids.length ≤ 1000000) (hF : n.op = 3 → FactsAt w v L) (hI : NodeIn rs N n) :
    Calls Try.prog 31 #[.agg #[rv, nv], .agg #[.int .i64 n.op, .slice ka n.kids.length kc, .int .i64 n.rule, .int .u64 n.s0, .int .u64 n.s1, .int .u64 n.s2, .int .u64 n.s3], v] w (NeedsIs rs L n ka kc w) := by
  have htwo := Lib.hid (two_new w (.cells #[rv, nv] 25) (.cells #[.int .i64 n.op, .slice ka n.kids.length kc, .int .i64 n.rule, .int .u64 n.s0, .int .u64 n.s1, .int .u64 n.s2, .int .u64 n.s3] 35))
  by_cases e2 : n.op = 2
  · obtain ⟨r, x, hr, hx, h0, h1⟩ := hI.root e2
    have hres := Lib.hid (show needN rs L n = [x.root] by unfold needN; rw [if_pos e2, hr, rootF_at hx])
    obtain ⟨-, ra, rc, rfl, hra⟩ := hR
    have hrl := (List.getElem?_eq_some_iff.1 hx).1
    rcases hra with h | ⟨rb, ro, rfl, hca⟩
    · rw [h] at hrl; exact absurd hrl (Nat.not_lt_zero _)
    obtain ⟨r0, r1⟩ := hca r x hx
    have lr := lt_of_cell r0
    have k0 : ¬ (r : Int) < 0 := by omega
    have k1 : ¬ (rs.length : Int) ≤ (r : Int) := by omega
    have k2 : (r : Int) < (rs.length : Int) := by omega
    rw [e2, hr] at htwo ⊢
    clear hI hca hF hK hx hr h0 h1
    go_enter Try.func31, Try.ntmps31
    go_wp2
    go_ret
    refine NeedsIs.one hres.out ⟨some ⟨w.heap.size + 2, 0, none⟩, 1, rfl, .inr ⟨_, 0, rfl, fun i y hy => ?_⟩⟩ (by omega) (bl_new htwo.out)
    cases i with
    | zero => obtain rfl : x.root = y := by simpa using hy
              exact Bl.cell (o := 0) (Bl.new' (by simp)) rfl
    | succ i => simp at hy
  · have q2 : (n.op == 2) = false := ibeq_no e2
    by_cases e3 : n.op = 3
    · have hF := hF e3
      have hN := Lib.hid (show needN rs L n = seqNd L n.kids by unfold needN; rw [if_neg e2, if_pos e3])
      have HN := Lib.hid (fun (x : Int) => wnull_any v L x _ (hF.below htwo.out))
      have HK := Lib.hid (hK.kept htwo.out (Nat.le_refl _))
      have HB := Lib.hid htwo.out
      have hz0 : ∃ a l c, v = .slice a l c := by obtain ⟨a, c, e⟩ := hF.slice; exact ⟨a, _, c, e⟩
      rw [e3] at htwo HN HK HB ⊢
      clear hI hF q2 htwo
      go_enter Try.func31, Try.ntmps31
      go_wp2
      go_loopw [37] (fun d wr => ∃ k : Nat, k ≤ n.kids.length ∧ d = .int .i64 (k : Int) ∧ wr = (w.alloc (.cells #[rv, nv] 25)).alloc (.cells #[.int .i64 3, .slice ka n.kids.length kc, .int .i64 n.rule, .int .u64 n.s0, .int .u64 n.s1, .int .u64 n.s2, .int .u64 n.s3] 35) ∧ ∀ y, y ∈ n.kids.take k → (atF L y).nul = true) (fun d _ => n.kids.length - (intOf d).toNat)
      case atStart => exact ⟨0, Nat.zero_le _, by first | rfl | trivial, by first | rfl | trivial, by simp⟩
      case round =>
        obtain ⟨k, hk, rfl, rfl, hall⟩ := hrel
        have HA := Lib.hid hall
        clear hall
        by_cases hlt : k < n.kids.length
        · have k1 : (k : Int) < (n.kids.length : Int) := by omega
          have k2 : (k : Int) + 1 ≤ (kc : Int) := by omega
          obtain ⟨x, hx⟩ : ∃ x, n.kids[k]? = some x := ⟨_, List.getElem?_eq_getElem hlt⟩
          obtain ⟨b, off, rfl, c0⟩ := hK.cell hx
          have hlb := lt_of_cell c0
          have HX := Lib.hid hx
          have HNX := Lib.hid (HN.out x)
          clear hx
          cases hb : (atF L x).nul with
          | true =>
            rw [hb] at HNX
            go_wp2_with (go_at_call 48; (with_reducible refine HNX.out.mono ?_); rintro e w2 ⟨rfl, hw⟩; obtain rfl := hw.symm; clear hw)
            go_roundw
            case rel =>
              refine ⟨k + 1, by omega, by go_num, by first | rfl | trivial, fun y hy => ?_⟩
              rw [List.take_add_one, HX.out, List.mem_append] at hy
              rcases hy with hy | hy
              · exact HA.out y hy
              · obtain rfl : y = x := by simpa using hy
                exact hb
            case measure => simp [intOf]; omega
          | false =>
            rw [hb] at HNX
            go_wp2_with (go_at_call 48; (with_reducible refine HNX.out.mono ?_); rintro e w2 ⟨rfl, hw⟩; obtain rfl := hw.symm; clear hw)
            go_ret
            have e1 := seqNd_cut L n.kids k x HA.out HX.out hb
            exact NeedsIs.kids (hN.out.trans e1) (HK.out.take hlt) rfl HB.out
        · obtain rfl : k = n.kids.length := by omega
          have k1 : ¬ (n.kids.length : Int) < (n.kids.length : Int) := by omega
          go_wp2
          go_ret
          rw [List.take_length] at HA
          exact NeedsIs.kids (hN.out.trans (seqNd_all L _ HA.out)) HK.out (List.take_length ..).symm HB.out
    · have q3 : (n.op == 3) = false := ibeq_no e3
      have hres := Lib.hid (show needN rs L n = n.kids by unfold needN; rw [if_neg e2, if_neg e3])
      have HK := Lib.hid (hK.kept htwo.out (Nat.le_refl _))
      clear hI hF hK
      go_enter Try.func31, Try.ntmps31
      go_wp2
      go_ret
      exact NeedsIs.kids hres.out HK.out (List.take_length ..).symm htwo.out
end Go.Proofs.Ytnfjbjmdempafaa
namespace Go.Proofs.Ytnfjbjmdempafaa
open Go.RowKit
/-- The indices below k for which p holds. -/
def idxP (p : Nat → Bool) (k : Nat) : List Int := ((List.range k).filter p).map fun (i : Nat) => (i : Int)
theorem idxP_yes {p : Nat → Bool} {k : Nat} (h : p k = true) : idxP p (k + 1) = idxP p k ++ [(k : Int)] := by
  unfold idxP; rw [List.range_succ, List.filter_append, List.map_append, List.filter_cons_of_pos h]; rfl
theorem idxP_no {p : Nat → Bool} {k : Nat} (h : p k = false) : idxP p (k + 1) = idxP p k := by
  unfold idxP; rw [List.range_succ, List.filter_append, List.map_append, List.filter_cons_of_neg (by rw [h]; simp)]; simp
theorem idxP_len (p : Nat → Bool) (k : Nat) : (idxP p k).length ≤ k := by
  unfold idxP; rw [List.length_map]; have := List.length_filter_le p (List.range k); rwa [List.length_range] at this
theorem idxP_congr {p q : Nat → Bool} {k : Nat} (h : ∀ i, i < k → p i = q i) : idxP p k = idxP q k := by
  unfold idxP; rw [List.filter_congr fun i hi => h i (List.mem_range.1 hi)]
/-- A slice that holds bools. -/
def BoolsAt (w : World) (v : Value) (l : List Bool) : Prop := ∃ a cap, v = .slice a l.length cap ∧ (l = [] ∨ ∃ b off, a = some ⟨b, off, none⟩ ∧ ∀ i x, l[i]? = some x → w.cell? ⟨b, off + i, none⟩ = some (.bool x))
theorem BoolsAt.kept {n : Nat} {w w' : World} {v : Value} {l : List Bool} (h : BoolsAt w v l) (hb : Below n w w') (hn : w.heap.size ≤ n) : BoolsAt w' v l := by
  obtain ⟨a, cap, rfl, h⟩ := h
  refine ⟨a, cap, rfl, ?_⟩
  rcases h with h | ⟨b, off, rfl, hc⟩
  · exact .inl h
  · refine .inr ⟨b, off, rfl, fun i x hx => ?_⟩
    have h0 := hc i x hx
    have hl := lt_of_cell h0
    rw [(bcell hb).1 b _ (by omega)]
    exact h0
theorem BoolsAt.cell {w : World} {a : Option Addr} {n c : Nat} {l : List Bool} {i : Nat} {x : Bool} (h : BoolsAt w (.slice a n c) l) (hx : l[i]? = some x) : ∃ b off, a = some ⟨b, off, none⟩ ∧ w.cell? ⟨b, off + i, none⟩ = some (.bool x) := by
  obtain ⟨a', c', e, h⟩ := h
  injection e with e1 e2 e3
  subst e1
  rcases h with h | ⟨b, off, rfl, hc⟩
  · rw [h] at hx; simp at hx
  · exact ⟨b, off, rfl, hc i x hx⟩
/-- What where answers: a row of its own. -/
def RowIs (r : List Int) (w : World) (e : Ending) (w' : World) : Prop := ∃ v, e = .returned v ∧ w'.ownsRow w.heap.size 3 1 v r.length (intsV r) ∧ Below w.heap.size w w'
theorem wofC_any (x : Int) (w : World) : Calls Try.prog 34 #[.int .i64 x] w fun e w' => e = .returned (.bool (decide (x = 0))) ∧ w' = w := by
  by_cases h : x = 0
  · subst h
    go_enter Try.func34, Try.ntmps34
    go_wp2
    go_ret
    exact ⟨rfl, rfl⟩
  · have q : (x == 0) = false := ibeq_no h
    have hd := Lib.hid (decide_eq_false h)
    go_enter Try.func34, Try.ntmps34
    go_wp2
    go_ret
    exact ⟨ret_bool hd.out.symm, rfl⟩
theorem wwrongC_any (x : Bool) (w : World) : Calls Try.prog 50 #[.bool x] w fun e w' => e = .returned (.bool (!x)) ∧ w' = w := by
  go_enter Try.func50, Try.ntmps50
  go_wp2
  go_ret
  exact ⟨rfl, rfl⟩
theorem wloopsC_any (n : PN) (ka : Option Addr) (kc FB : Nat) (v : Value) (L : List Fc) (w : World) (hK : IntsAt w (.slice ka n.kids.length kc) n.kids) (hF : FactsAt w v L) (h5 : 5 ≤ n.op → ∃ k, n.kids = [k]) (hc : w.cell? ⟨FB, 0, none⟩ = some v) :
    Calls Try.prog 29 #[.agg #[.int .i64 n.op, .slice ka n.kids.length kc, .int .i64 n.rule, .int .u64 n.s0, .int .u64 n.s1, .int .u64 n.s2, .int .u64 n.s3], .pointer (some ⟨FB, 0, none⟩)] w fun e w' => e = .returned (.bool (loopN L n)) ∧ Below w.heap.size w w' := by
  have hone := Lib.hid (one_new w (.cells #[.int .i64 n.op, .slice ka n.kids.length kc, .int .i64 n.rule, .int .u64 n.s0, .int .u64 n.s1, .int .u64 n.s2, .int .u64 n.s3] 35))
  have HN := Lib.hid (wreps_any n ka kc v L _ (hK.kept hone.out (Nat.le_refl _)) (hF.below hone.out) h5)
  obtain ⟨a, c, rfl⟩ := hF.slice
  have hl := lt_of_cell hc
  clear hK hF h5
  go_enter Try.func29, Try.ntmps29
  go_wp2_with (go_at_call 30; (with_reducible refine HN.out.mono ?_); rintro e w2 ⟨rfl, hb⟩; have HB := Lib.hid hb; clear hb)
  go_ret
  exact ⟨rfl, bl_on hone.out HB.out⟩
set_option maxHeartbeats 4000000 in
set_option maxRecDepth 100000 in
theorem wwhereI_any (u : Value) (l : List Int) (w : World) (hl : l.length ≤ 100000) (hu : IntsAt w u l) :
    Calls Try.prog 33 #[u, .func (.func 34) #[] #[]] w (RowIs (idxP (fun i => decide (l[i]? = some 0)) l.length) w) := by
  obtain ⟨ii, hii, hz0, hz1, hz2⟩ := info_parts infoInt
  obtain ⟨ua, uc, rfl, -⟩ := id hu
  go_enter Try.func33, Try.ntmps33
  go_wp2
  go_loopw [5, 10] (fun s c wr => ∃ k : Nat, k ≤ l.length ∧ c = .int .i64 (k : Int) ∧ wr.ownsRow w.heap.size 3 1 s (idxP (fun i => decide (l[i]? = some 0)) k).length (intsV (idxP (fun i => decide (l[i]? = some 0)) k)) ∧ Below w.heap.size w wr) (fun _ c _ => l.length - (intOf c).toNat)
  case atStart => exact ⟨0, Nat.zero_le _, rfl, World.ownsRow_nil _ _ _ _, Below.refl _ _⟩
  case round =>
    obtain ⟨k, hk, rfl, ho, hb⟩ := hrel
    obtain ⟨sa, sc, rfl⟩ := own_slice' ho
    have hlen := idxP_len (fun i => decide (l[i]? = some 0)) k
    by_cases hlt : k < l.length
    · have k1 : (k : Int) < (l.length : Int) := by omega
      obtain ⟨x, hx⟩ : ∃ x, l[k]? = some x := ⟨_, List.getElem?_eq_getElem hlt⟩
      obtain ⟨b, off, rfl, c0⟩ := hu.cell hx
      have hlb := lt_of_cell c0
      rw [← (bcell hb).1 _ _ hlb] at c0
      have hlb' := lt_of_cell c0
      have HB := Lib.hid hb
      have HO := Lib.hid ho
      cases hd : decide (x = 0) with
      | true =>
        have HC := Lib.hid (wofC_any x wr)
        rw [hd] at HC
        have HI := Lib.hid (idxP_yes (p := fun i => decide (l[i]? = some 0)) (k := k) (by rw [hx]; simpa using hd))
        clear hx ho hb
        generalize hg : idxP (fun i => decide (l[i]? = some 0)) k = r at *
        go_wp2_with (first
          | (go_at_call 34; (with_reducible refine HC.out.mono ?_); rintro e w2 ⟨rfl, hw⟩; obtain rfl := hw.symm; clear hw)
          | (at_builtin; refine wpList_append_own _ rfl _ _ 30 rfl w.heap.size 3 ii _ 1 8 Try.underlying30 hii hz0 hz1 hz2 rfl (by decide) _ r.length _ rfl (ownsRow_grown HO.out (one_new _ _)) ⟨_, 0, none⟩ 1 1 [.int .i64 (k : Int)] rfl rfl (Bl.news (Bl.new _ 3 _)) (by simp [Value.oneCell']) (by unfold maxLen; omega) (by omega) (by have := HB.out.size; simp; omega) ?_; intro v5 w5 hown' hgrow _; have HO5 := Lib.hid hown'; have HB5 := Lib.hid ((bl_new HB.out).grown hgrow (bl_new HB.out).size (fun g e => (HO.out.lt g e).1)); clear hown' hgrow))
        go_roundw
        case rel => exact ⟨k + 1, by omega, by go_num, by rw [HI.out, List.length_append, intsV_append]; exact HO5.out, HB5.out⟩
        case measure => simp [intOf]; omega
      | false =>
        have HC := Lib.hid (wofC_any x wr)
        rw [hd] at HC
        have HI := Lib.hid (idxP_no (p := fun i => decide (l[i]? = some 0)) (k := k) (by rw [hx]; simpa using hd))
        clear hx ho hb
        go_wp2_with (go_at_call 34; (with_reducible refine HC.out.mono ?_); rintro e w2 ⟨rfl, hw⟩; obtain rfl := hw.symm; clear hw)
        go_roundw
        case rel => exact ⟨k + 1, by omega, by go_num, by rw [HI.out]; exact HO.out, HB.out⟩
        case measure => simp [intOf]; omega
    · obtain rfl : k = l.length := by omega
      have k1 : ¬ (l.length : Int) < (l.length : Int) := by omega
      have HO := Lib.hid ho
      have HB := Lib.hid hb
      clear ho hb
      go_wp2
      go_ret
      exact ⟨_, rfl, HO.out, HB.out⟩
set_option maxHeartbeats 4000000 in
set_option maxRecDepth 100000 in
theorem wwhereB_any (u : Value) (l : List Bool) (w : World) (hl : l.length ≤ 100000) (hu : BoolsAt w u l) :
    Calls Try.prog 49 #[u, .func (.func 50) #[] #[]] w (RowIs (idxP (fun i => decide (l[i]? = some false)) l.length) w) := by
  obtain ⟨ii, hii, hz0, hz1, hz2⟩ := info_parts infoInt
  obtain ⟨ua, uc, rfl, -⟩ := id hu
  go_enter Try.func49, Try.ntmps49
  go_wp2
  go_loopw [5, 10] (fun s c wr => ∃ k : Nat, k ≤ l.length ∧ c = .int .i64 (k : Int) ∧ wr.ownsRow w.heap.size 3 1 s (idxP (fun i => decide (l[i]? = some false)) k).length (intsV (idxP (fun i => decide (l[i]? = some false)) k)) ∧ Below w.heap.size w wr) (fun _ c _ => l.length - (intOf c).toNat)
  case atStart => exact ⟨0, Nat.zero_le _, rfl, World.ownsRow_nil _ _ _ _, Below.refl _ _⟩
  case round =>
    obtain ⟨k, hk, rfl, ho, hb⟩ := hrel
    obtain ⟨sa, sc, rfl⟩ := own_slice' ho
    have hlen := idxP_len (fun i => decide (l[i]? = some false)) k
    by_cases hlt : k < l.length
    · have k1 : (k : Int) < (l.length : Int) := by omega
      obtain ⟨x, hx⟩ : ∃ x, l[k]? = some x := ⟨_, List.getElem?_eq_getElem hlt⟩
      obtain ⟨b, off, rfl, c0⟩ := hu.cell hx
      have hlb := lt_of_cell c0
      rw [← (bcell hb).1 _ _ hlb] at c0
      have hlb' := lt_of_cell c0
      have HB := Lib.hid hb
      have HO := Lib.hid ho
      cases x with
      | false =>
        have HC := Lib.hid (wwrongC_any false wr)
        have HI := Lib.hid (idxP_yes (p := fun i => decide (l[i]? = some false)) (k := k) (by rw [hx]; simp))
        clear hx ho hb
        generalize hg : idxP (fun i => decide (l[i]? = some false)) k = r at *
        go_wp2_with (first
          | (go_at_call 50; (with_reducible refine HC.out.mono ?_); rintro e w2 ⟨rfl, hw⟩; obtain rfl := hw.symm; clear hw)
          | (at_builtin; refine wpList_append_own _ rfl _ _ 30 rfl w.heap.size 3 ii _ 1 8 Try.underlying30 hii hz0 hz1 hz2 rfl (by decide) _ r.length _ rfl (ownsRow_grown HO.out (one_new _ _)) ⟨_, 0, none⟩ 1 1 [.int .i64 (k : Int)] rfl rfl (Bl.news (Bl.new _ 3 _)) (by simp [Value.oneCell']) (by unfold maxLen; omega) (by omega) (by have := HB.out.size; simp; omega) ?_; intro v5 w5 hown' hgrow _; have HO5 := Lib.hid hown'; have HB5 := Lib.hid ((bl_new HB.out).grown hgrow (bl_new HB.out).size (fun g e => (HO.out.lt g e).1)); clear hown' hgrow))
        go_roundw
        case rel => exact ⟨k + 1, by omega, by go_num, by rw [HI.out, List.length_append, intsV_append]; exact HO5.out, HB5.out⟩
        case measure => simp [intOf]; omega
      | true =>
        have HC := Lib.hid (wwrongC_any true wr)
        have HI := Lib.hid (idxP_no (p := fun i => decide (l[i]? = some false)) (k := k) (by rw [hx]; simp))
        clear hx ho hb
        go_wp2_with (go_at_call 50; (with_reducible refine HC.out.mono ?_); rintro e w2 ⟨rfl, hw⟩; obtain rfl := hw.symm; clear hw)
        go_roundw
        case rel => exact ⟨k + 1, by omega, by go_num, by rw [HI.out]; exact HO.out, HB.out⟩
        case measure => simp [intOf]; omega
    · obtain rfl : k = l.length := by omega
      have k1 : ¬ (l.length : Int) < (l.length : Int) := by omega
      have HO := Lib.hid ho
      have HB := Lib.hid hb
      clear ho hb
      go_wp2
      go_ret
      exact ⟨_, rfl, HO.out, HB.out⟩
set_option maxHeartbeats 4000000 in
set_option maxRecDepth 100000 in
theorem wwhereN_any (nv v : Value) (ns : List PN) (L : List Fc) (FB : Nat) (w : World) (hl : ns.length ≤ 100000) (hN : NodesAt w nv ns) (hF : FactsAt w v L) (h5 : ∀ n, n ∈ ns → 5 ≤ n.op → ∃ k, n.kids = [k]) (hc : w.cell? ⟨FB, 0, none⟩ = some v) :
    Calls Try.prog 28 #[nv, .func (.func 29) #[] #[.pointer (some ⟨FB, 0, none⟩)]] w (RowIs (idxP (loopW ns L) ns.length) w) := by
  obtain ⟨ii, hii, hz0, hz1, hz2⟩ := info_parts infoInt
  obtain ⟨-, na, nc, rfl, hna⟩ := id hN
  have HF := Lib.hid (fun (W : World) (hb : Below w.heap.size w W) (n : PN) (hn : n ∈ ns) (ka : Option Addr) (kc : Nat) (hK : IntsAt W (.slice ka n.kids.length kc) n.kids) => wloopsC_any n ka kc FB v L W hK (hF.below hb) (h5 n hn) (by rw [(bcell hb).1 _ _ (lt_of_cell hc)]; exact hc))
  clear hF hc h5
  go_enter Try.func28, Try.ntmps28
  go_wp2
  go_loopw [5, 10] (fun s c wr => ∃ k : Nat, k ≤ ns.length ∧ c = .int .i64 (k : Int) ∧ wr.ownsRow w.heap.size 3 1 s (idxP (loopW ns L) k).length (intsV (idxP (loopW ns L) k)) ∧ Below w.heap.size w wr) (fun _ c _ => ns.length - (intOf c).toNat)
  case atStart => exact ⟨0, Nat.zero_le _, rfl, World.ownsRow_nil _ _ _ _, Below.refl _ _⟩
  case round =>
    obtain ⟨k, hk, rfl, ho, hb⟩ := hrel
    obtain ⟨sa, sc, rfl⟩ := own_slice' ho
    have hlen := idxP_len (loopW ns L) k
    by_cases hlt : k < ns.length
    · have k1 : (k : Int) < (ns.length : Int) := by omega
      obtain ⟨n, hn⟩ : ∃ n, ns[k]? = some n := ⟨_, List.getElem?_eq_getElem hlt⟩
      rcases hna with h0 | ⟨nb, no, rfl, hca⟩
      · rw [h0] at hlt; exact absurd hlt (Nat.not_lt_zero _)
      obtain ⟨kv, c0, c1, c2, c3, c4, c5, c6, hki, -⟩ := hca k n hn
      have lr := lt_of_cell c0
      obtain ⟨ka, kc, rfl, -⟩ := id hki
      have hb1 := bl_new (o := .cells #[.int .i64 n.op, .slice ka n.kids.length kc, .int .i64 n.rule, .int .u64 n.s0, .int .u64 n.s1, .int .u64 n.s2, .int .u64 n.s3] 35) hb
      have HC := Lib.hid (HF.out _ hb1 n (List.mem_of_getElem? hn) ka kc (hki.kept hb1 (Nat.le_refl _)))
      rw [← (bcell hb).1 _ _ lr] at c0 c1 c2 c3 c4 c5 c6
      have hl0 := lt_of_cell c0
      have HB := Lib.hid hb1
      have HO := Lib.hid (ownsRow_grown ho (one_new wr (.cells #[.int .i64 n.op, .slice ka n.kids.length kc, .int .i64 n.rule, .int .u64 n.s0, .int .u64 n.s1, .int .u64 n.s2, .int .u64 n.s3] 35)))
      have hlw := loopW_at (L := L) hn
      cases hd : loopN L n with
      | true =>
        rw [hd] at HC
        have HI := Lib.hid (idxP_yes (p := loopW ns L) (k := k) (hlw.trans hd))
        clear hn ho hb hca hb1 hki hlw hd
        generalize hg : idxP (loopW ns L) k = r at *
        go_wp2_with (first
          | (go_at_call 29; (with_reducible refine HC.out.mono ?_); rintro e w2 ⟨rfl, hw⟩; have HB2 := Lib.hid (bl_on HB.out hw); have HO2 := Lib.hid (ownsRow_grown HO.out hw); clear hw)
          | (at_builtin; refine wpList_append_own _ rfl _ _ 30 rfl w.heap.size 3 ii _ 1 8 Try.underlying30 hii hz0 hz1 hz2 rfl (by decide) _ r.length _ rfl (ownsRow_grown HO2.out (one_new _ _)) ⟨_, 0, none⟩ 1 1 [.int .i64 (k : Int)] rfl rfl (Bl.news (Bl.new _ 3 _)) (by simp [Value.oneCell']) (by unfold maxLen; omega) (by omega) (by have := HB2.out.size; simp; omega) ?_; intro v5 w5 hown' hgrow _; have HO5 := Lib.hid hown'; have HB5 := Lib.hid ((bl_new HB2.out).grown hgrow (bl_new HB2.out).size (fun g e => (HO2.out.lt g e).1)); clear hown' hgrow))
        go_roundw
        case rel => exact ⟨k + 1, by omega, by go_num, by rw [HI.out, List.length_append, intsV_append]; exact HO5.out, HB5.out⟩
        case measure => simp [intOf]; omega
      | false =>
        rw [hd] at HC
        have HI := Lib.hid (idxP_no (p := loopW ns L) (k := k) (hlw.trans hd))
        clear hn ho hb hca hb1 hki hlw hd
        go_wp2_with (go_at_call 29; (with_reducible refine HC.out.mono ?_); rintro e w2 ⟨rfl, hw⟩; have HB2 := Lib.hid (bl_on HB.out hw); have HO2 := Lib.hid (ownsRow_grown HO.out hw); clear hw)
        go_roundw
        case rel => exact ⟨k + 1, by omega, by go_num, by rw [HI.out]; exact HO2.out, HB2.out⟩
        case measure => simp [intOf]; omega
    · obtain rfl : k = ns.length := by omega
      have k1 : ¬ (ns.length : Int) < (ns.length : Int) := by omega
      have HO := Lib.hid ho
      have HB := Lib.hid hb
      clear ho hb
      go_wp2
      go_ret
      exact ⟨_, rfl, HO.out, HB.out⟩
end Go.Proofs.Ytnfjbjmdempafaa
