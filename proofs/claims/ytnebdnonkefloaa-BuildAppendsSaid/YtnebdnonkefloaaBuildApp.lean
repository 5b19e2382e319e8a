/- The closures of Append, and Append. -/
import Derived.Test.YtnebdnonkefloaaBuildOf
import Derived.Test.YtnebdnonkefloaaBuildOne
import Derived.Test.YtnebdnonkefloaaGramFirst
import Derived.Test.YtnebdnonkefloaaGramClone
namespace Go.Proofs.Ytnebdnonkefloaa
section
open Go.RowKit
def movN (d : Int) (n : PN) : PN := ⟨n.op, n.kids.map (· + d), n.rule, n.s0, n.s1, n.s2, n.s3⟩
theorem appCC_any (k d : Int) (MB : Nat) (w : World) (hM : w.cell? ⟨MB, 0, none⟩ = some (.int .i64 d)) (h1 : -1000000000 ≤ k) (h2 : k ≤ 1000000000) (h3 : -1000000000 ≤ d) (h4 : d ≤ 1000000000) :
    Calls Try.prog 44 #[.int .i64 k, .pointer (some ⟨MB, 0, none⟩)] w fun e w' => e = .returned (.int .i64 (k + d)) ∧ w' = w := by
  go_enter Try.func44, Try.ntmps44
  go_wp2
  go_ret
  exact ⟨rfl, rfl⟩
def EachIntIs (l : List Int) (d : Int) (w : World) (e : Ending) (w' : World) : Prop := ∃ u, e = .returned u ∧ w'.ownsRow w.heap.size 3 1 u (l.map (· + d)).length (intsV (l.map (· + d))) ∧ Below w.heap.size w w'
set_option maxHeartbeats 4000000 in
set_option maxRecDepth 100000 in
theorem eachInt_any (v : Value) (l : List Int) (d : Int) (MB : Nat) (w : World) (hv : IntsAt w v l) (hl : l.length ≤ 1000000) (hM : w.cell? ⟨MB, 0, none⟩ = some (.int .i64 d)) (hk : ∀ k, k ∈ l → 0 ≤ k ∧ k ≤ 1000000) (h3 : -1000000000 ≤ d) (h4 : d ≤ 1000000000) :
    Calls Try.prog 43 #[.slice none 0 0, v, .func (.func 44) #[] #[.pointer (some ⟨MB, 0, none⟩)]] w (EachIntIs l d w) := by
  obtain ⟨va, vc, rfl, -⟩ := id hv
  obtain ⟨ii, hii, hz0, hz1, hz2⟩ := info_parts infoInt
  have HV := Lib.hid hv
  have HM := Lib.hid hM
  have HK := Lib.hid hk
  clear hv hM hk
  go_enter Try.func43, Try.ntmps43
  go_wp2
  go_loopw [11, 0] (fun c u wr => ∃ k : Nat, k ≤ l.length ∧ c = .int .i64 k ∧ wr.ownsRow w.heap.size 3 1 u k (intsV ((l.take k).map (· + d))) ∧ Below w.heap.size w wr) (fun c _ _ => l.length - (intOf c).toNat)
  case atStart => exact ⟨0, Nat.zero_le _, rfl, World.ownsRow_nil _ _ _ _, Below.refl _ _⟩
  case round =>
    obtain ⟨k, hk, rfl, ho, hb⟩ := hrel
    obtain ⟨ua, uc, rfl⟩ := own_slice' ho
    by_cases hlt : k < l.length
    · obtain ⟨x, hx⟩ : ∃ x, l[k]? = some x := ⟨_, List.getElem?_eq_getElem hlt⟩
      obtain ⟨b, off, rfl, c0⟩ := (HV.out.kept hb (Nat.le_refl _)).at' hx
      obtain ⟨x0, x1⟩ := HK.out x (List.mem_of_getElem? hx)
      have k1 : (k : Int) < (l.length : Int) := by omega
      have HX := Lib.hid hx
      have HO := Lib.hid ho
      have HB := Lib.hid hb
      have hbs := hb.size
      have m0 : wr.cell? ⟨MB, 0, none⟩ = some (.int .i64 d) := by rw [(bcell hb).1 _ _ (lt_of_cell HM.out)]; exact HM.out
      have hC := Lib.hid (appCC_any x d MB wr m0 (by omega) (by omega) h3 h4)
      clear hx ho hb m0
      go_wp2_with (first
        | (go_at_call 44; (with_reducible refine hC.out.mono ?_); rintro e w2 ⟨rfl, hw⟩; obtain rfl := hw.symm; clear hw)
        | (at_builtin; refine wpList_append_own _ rfl _ _ 53 rfl w.heap.size 3 ii _ 1 8 Try.underlying53 hii hz0 hz1 hz2 rfl (by decide) _ k _ rfl (ownsRow_grown HO.out (one_new _ _)) ⟨_, 0, none⟩ 1 1 [.int .i64 (x + d)] rfl rfl (cell_one_new _ _ _) (by simp [Value.oneCell']) (by unfold maxLen; omega) (by omega) (by simp; omega) ?_; intro v5 w5 hown' hgrow _; have HO5 := Lib.hid hown'; have HB5 := Lib.hid ((HB.out.trans ((one_new _ _).mono hbs)).grown hgrow (Nat.le_trans hbs (one_new _ _).size) (fun g e => (HO.out.lt g e).1)); clear hown' hgrow))
      go_roundw
      case rel => exact ⟨k + 1, by omega, by go_num, by have := HO5.out; rw [take_snoc' l k x HX.out, List.map_append]; unfold intsV at this ⊢; rw [List.map_append]; exact this, HB5.out⟩
      case measure => simp [intOf]; omega
    · obtain rfl : k = l.length := by omega
      have k1 : ¬ (l.length : Int) < (l.length : Int) := by omega
      have HO : Hid (wr.ownsRow w.heap.size 3 1 (.slice ua l.length uc) (l.map (· + d)).length (intsV (l.map (· + d)))) := Lib.hid (by rw [List.length_map]; rw [List.take_length] at ho; exact ho)
      have HB := Lib.hid hb
      clear ho hb
      go_wp2
      go_ret
      exact ⟨_, rfl, HO.out, HB.out⟩
def AppCIs (n : PN) (d : Int) (w : World) (e : Ending) (w' : World) : Prop := ∃ kv, e = .returned (nodeV (movN d n) kv) ∧ w'.ownsRow w.heap.size 3 1 kv (movN d n).kids.length (intsV (movN d n).kids) ∧ Below w.heap.size w w'
/-- The copied children and two cells of nodes, through a store. -/
def OwnP (w : World) (b : Nat) (u : Value) (l : List Int) (W : World) : Prop := W.ownsRow w.heap.size 3 1 u l.length (intsV l) ∧ (∃ cs, Bl W b 55 cs) ∧ Below w.heap.size w W
theorem OwnP.set {w : World} {b : Nat} {u : Value} {l : List Int} {W : World} (h : OwnP w b u l W) (hb : w.heap.size ≤ b) (o : Nat) (x : Value) : OwnP w b u l (W.setCell ⟨b, o, none⟩ x) := by
  obtain ⟨h1, ⟨cs, h2⟩, h3⟩ := h
  exact ⟨ownsRow_setCell_other h1 (a := ⟨b, o, none⟩) (own_ne h1 h2 (by decide)) x, ⟨_, h2.set' x⟩, h3.setCell (p := ⟨b, o, none⟩) hb x⟩
theorem AppCIs.mk {n : PN} {d : Int} {w w2 : World} {A R : Nat} {ca cr : Array Value} {u y x0 x1 x2 x3 x4 x5 x6 : Value} (hA : w.heap.size ≤ A) (hR : w.heap.size ≤ R) (hne : R ≠ A) (h1 : w2.ownsRow w.heap.size 3 1 u (n.kids.map (· + d)).length (intsV (n.kids.map (· + d)))) (h2 : Bl w2 A 55 ca) (h3 : Bl w2 R 55 cr) (h4 : Below w.heap.size w w2) :
    AppCIs n d w (.returned (nodeV (movN d n) u)) ((((((((w2.setCell ⟨A, 1, none⟩ y).setCell ⟨R, 0, none⟩ x0).setCell ⟨R, 1, none⟩ x1).setCell ⟨R, 2, none⟩ x2).setCell ⟨R, 3, none⟩ x3).setCell ⟨R, 4, none⟩ x4).setCell ⟨R, 5, none⟩ x5).setCell ⟨R, 6, none⟩ x6) := by
  have p : OwnP w A u (n.kids.map (· + d)) w2 := ⟨h1, ⟨_, h2⟩, h4⟩
  obtain ⟨q1, -, q3⟩ := p.set hA 1 y
  have r : OwnP w R u (n.kids.map (· + d)) (w2.setCell ⟨A, 1, none⟩ y) := ⟨q1, ⟨_, h3.other hne _⟩, q3⟩
  obtain ⟨z1, -, z3⟩ := ((((((r.set hR 0 x0).set hR 1 x1).set hR 2 x2).set hR 3 x3).set hR 4 x4).set hR 5 x5).set hR 6 x6
  exact ⟨u, rfl, z1, z3⟩
set_option maxHeartbeats 4000000 in
set_option maxRecDepth 100000 in
theorem appC_any (n : PN) (kv : Value) (d : Int) (MB : Nat) (w : World) (hv : IntsAt w kv n.kids) (hl : n.kids.length ≤ 1000000) (hM : w.cell? ⟨MB, 0, none⟩ = some (.int .i64 d)) (hk : ∀ k, k ∈ n.kids → 0 ≤ k ∧ k ≤ 1000000) (h3 : -1000000000 ≤ d) (h4 : d ≤ 1000000000) :
    Calls Try.prog 42 #[nodeV n kv, .pointer (some ⟨MB, 0, none⟩)] w (AppCIs n d w) := by
  obtain ⟨ka, kc, rfl, -⟩ := id hv
  have hmf : ∀ (fn : Fn) (first cap : Array Value) (w : World), (Instr.makeFunc fn first cap).run Try.prog w = .ok (.func fn first cap) w := fun _ _ _ _ => rfl
  obtain ⟨W, hW⟩ : ∃ W, (w.alloc (.cells #[.int .i64 n.op, .slice ka n.kids.length kc, .int .i64 n.rule, .int .u64 n.s0, .int .u64 n.s1, .int .u64 n.s2, .int .u64 n.s3] 55)).alloc (.cells #[.int .i64 0, .slice none 0 0, .int .i64 0, .int .u64 0, .int .u64 0, .int .u64 0, .int .u64 0] 55) = W := ⟨_, rfl⟩
  have hb : Below w.heap.size w W := by rw [← hW]; exact two_new _ _ _
  have hA : Bl W w.heap.size 55 #[.int .i64 n.op, .slice ka n.kids.length kc, .int .i64 n.rule, .int .u64 n.s0, .int .u64 n.s1, .int .u64 n.s2, .int .u64 n.s3] := by rw [← hW]; repeat (first | (refine Bl.new' ?_; simp; done) | refine Bl.past ?_)
  have hR : Bl W (w.heap.size + 1) 55 #[.int .i64 0, .slice none 0 0, .int .i64 0, .int .u64 0, .int .u64 0, .int .u64 0, .int .u64 0] := by rw [← hW]; repeat (first | (refine Bl.new' ?_; simp; done) | refine Bl.past ?_)
  have hC := Lib.hid (eachInt_any (.slice ka n.kids.length kc) n.kids d MB W (hv.kept hb (Nat.le_refl _)) hl (by rw [(bcell hb).1 _ _ (lt_of_cell hM)]; exact hM) hk h3 h4)
  have a1 := hA.cell (o := 1) rfl
  have HA := Lib.hid hA
  have HR := Lib.hid hR
  have HB := Lib.hid hb
  unfold nodeV
  clear hb hA hR hv hM hk
  go_enter Try.func42, Try.ntmps42
  go_wp2_with (go_at_call 43; (with_reducible refine hC.out.mono ?_); rintro e w2 ⟨u, rfl, ho2, hb2⟩; obtain ⟨ua, uc, rfl⟩ := own_slice' ho2; have hA2 := HA.out.below hb2; have hR2 := HR.out.below hb2; have x0 := hA2.cell (o := 0) rfl; have x1 := hA2.cell (o := 1) rfl; have x2 := hA2.cell (o := 2) rfl; have x3 := hA2.cell (o := 3) rfl; have x4 := hA2.cell (o := 4) rfl; have x5 := hA2.cell (o := 5) rfl; have x6 := hA2.cell (o := 6) rfl; have xf := hA2.free; have r0 := hR2.cell (o := 0) rfl; have r1 := hR2.cell (o := 1) rfl; have r2 := hR2.cell (o := 2) rfl; have r3 := hR2.cell (o := 3) rfl; have r4 := hR2.cell (o := 4) rfl; have r5 := hR2.cell (o := 5) rfl; have r6 := hR2.cell (o := 6) rfl; have rf := hR2.free; have HA2 := Lib.hid hA2; have HR2 := Lib.hid hR2; have HO2 := Lib.hid ho2; have HB2 := Lib.hid (HB.out.trans (hb2.mono HB.out.size)); have hbw2 := hb2.size; clear hA2 hR2 ho2 hb2)
  have hx := (((((((HR2.out.other (c := w.heap.size) (o := 1) (by omega) (.slice ua n.kids.length uc)).set' (o := 0) (.int .i64 n.op)).set' (o := 1) (.slice ua n.kids.length uc)).set' (o := 2) (.int .i64 n.rule)).set' (o := 3) (.int .u64 n.s0)).set' (o := 4) (.int .u64 n.s1)).set' (o := 5) (.int .u64 n.s2)).set' (o := 6) (.int .u64 n.s3)
  simp only [List.setIfInBounds_toArray, List.set_cons_zero, List.set_cons_succ] at hx
  have y0 := hx.cell (o := 0) (u := .int .i64 n.op) rfl
  have y1 := hx.cell (o := 1) (u := .slice ua n.kids.length uc) rfl
  have y2 := hx.cell (o := 2) (u := .int .i64 n.rule) rfl
  have y3 := hx.cell (o := 3) (u := .int .u64 n.s0) rfl
  have y4 := hx.cell (o := 4) (u := .int .u64 n.s1) rfl
  have y5 := hx.cell (o := 5) (u := .int .u64 n.s2) rfl
  have y6 := hx.cell (o := 6) (u := .int .u64 n.s3) rfl
  exact bodyPost_ret (v := nodeV (movN d n) (.slice ua n.kids.length uc)) (by simp [results, Try.results42, go_sem, nodeV, movN, y0, y1, y2, y3, y4, y5, y6]) rfl (AppCIs.mk (Nat.le_refl _) (by omega) (by omega) (by have := own_mono HO2.out (base' := w.heap.size) HB.out.size; rw [List.length_map] at this ⊢; exact this) HA2.out HR2.out HB2.out)
end
section
open Go.RowKit
theorem NRow.snoc {base : Nat} {v v' kv : Value} {ns : List PN} {qs : List Value} {n : PN} {w w' : World} (h : NRow base v ns qs w) (hk : w.ownsRow base 3 1 kv n.kids.length (intsV n.kids))
    (hown : w'.ownsRow base 55 7 v' (ns.length + 1) (nodesC (ns.zip qs) ++ nodeC (n, kv))) (hg : w.grownBy w' v.ownBlock) : NRow base v' (ns ++ [n]) (qs ++ [kv]) w' := by
  have kind : ∀ g, v.ownBlock = some g → ∃ c fz, w.heap[g]? = some (.cells c 55 fz) := fun g hv => Lib.ownsRow_kind h.2.1 g hv
  refine ⟨by rw [List.length_append, List.length_append, h.1]; rfl, ?_, fun j m q a b => ?_⟩
  · rw [List.zip_append h.1.symm]
    unfold nodesC at hown ⊢
    rw [List.flatMap_append, List.length_append]
    simpa using hown
  · have key : ∀ {u : Value} {k : Nat} {xs : List Value}, w.ownsRow base 3 1 u k xs → w'.ownsRow base 3 1 u k xs := fun hu => own_kept' hu hg kind (by decide)
    rcases Nat.lt_or_ge j ns.length with hj | hj
    · rw [List.getElem?_append_left hj] at a
      rw [List.getElem?_append_left (by rw [h.1]; exact hj)] at b
      exact key (h.2.2 j m q a b)
    · have hje : j = ns.length := by
        have := (List.getElem?_eq_some_iff.1 a).1
        simp at this; omega
      subst hje
      rw [List.getElem?_append_right (Nat.le_refl _), Nat.sub_self] at a
      rw [List.getElem?_append_right (by rw [h.1]; exact Nat.le_refl _), h.1, Nat.sub_self] at b
      obtain rfl := Option.some.inj a
      obtain rfl := Option.some.inj b
      exact key hk
def EachNodeS (b0 : Nat) (ns : List PN) (d : Int) (pre : List PN) (pqs : List Value) (w : World) (k : Nat) (u : Value) (wr : World) : Prop :=
  ∃ t, NRow b0 u (pre ++ (ns.take k).map (movN d)) (pqs ++ t) wr ∧ (∀ xb yb, Kp b0 xb yb 55 w wr)
def EachNodeIs (b0 : Nat) (ns : List PN) (d : Int) (pre : List PN) (pqs : List Value) (w : World) (e : Ending) (w' : World) : Prop :=
  ∃ u t, e = .returned u ∧ NRow b0 u (pre ++ ns.map (movN d)) (pqs ++ t) w' ∧ (∀ xb yb, Kp b0 xb yb 55 w w')
theorem EachNodeS.step {b0 : Nat} {ns : List PN} {n : PN} {d : Int} {pre : List PN} {pqs t : List Value} {w wr w1 w2 w5 : World} {k : Nat} {u u' kv : Value} {o : Obj} (hn : ns[k]? = some n) (h : NRow b0 u (pre ++ (ns.take k).map (movN d)) (pqs ++ t) w2) (hK : ∀ xb yb, Kp b0 xb yb 55 w wr) (h1 : Below wr.heap.size wr w1) (h2 : Below w1.heap.size w1 w2)
    (hk : w2.ownsRow b0 3 1 kv (movN d n).kids.length (intsV (movN d n).kids)) (hown : w5.ownsRow b0 55 7 u' ((pre ++ (ns.take k).map (movN d)).length + 1) (nodesC ((pre ++ (ns.take k).map (movN d)).zip (pqs ++ t)) ++ nodeC (movN d n, kv))) (hg : (w2.alloc o).grownBy w5 u.ownBlock) :
    EachNodeS b0 ns d pre pqs w (k + 1) u' w5 := by
  have hb := one_new w2 o
  have hr := h.grown hb
  have kind : ∀ g, u.ownBlock = some g → b0 ≤ g ∧ ∃ c fz, (w2.alloc o).heap[g]? = some (.cells c 55 fz) := fun g hv => ⟨(hr.2.1.lt g hv).1, Lib.ownsRow_kind hr.2.1 g hv⟩
  have := hr.snoc (ownsRow_grown hk hb) hown hg
  rw [List.append_assoc, List.append_assoc, ← List.map_singleton, ← List.map_append, ← take_snoc' ns k n hn] at this
  exact ⟨t ++ [kv], this, fun xb yb => ((hK xb yb).trans (Kp.of_below (h1.trans (h2.mono h1.size)))).trans ((Kp.of_below hb).trans (Kp.grown hg kind))⟩
set_option maxHeartbeats 8000000 in
set_option maxRecDepth 100000 in
theorem eachNode_any (w0 : World) (u v : Value) (ns pre : List PN) (pqs : List Value) (d : Int) (MB : Nat) (w : World) (hN : NodesAt w0 v ns) (hns : ns.length ≤ 1000000) (hpl : pre.length ≤ 1000000) (hk : ∀ n, n ∈ ns → n.kids.length ≤ 1000000 ∧ ∀ k, k ∈ n.kids → 0 ≤ k ∧ k ≤ 1000000) (hb : Below w0.heap.size w0 w) (hM : Bl w MB 3 #[.int .i64 d])
    (hr : NRow w0.heap.size u pre pqs w) (h3 : -1000000000 ≤ d) (h4 : d ≤ 1000000000) :
    Calls Try.prog 41 #[u, v, .func (.func 42) #[] #[.pointer (some ⟨MB, 0, none⟩)]] w (EachNodeIs w0.heap.size ns d pre pqs w) := by
  obtain ⟨ua, uc, rfl⟩ := own_slice' hr.2.1
  obtain ⟨ie, hie, hze0, hze1, hze2⟩ := info_parts infoNode
  have hst : EachNodeS w0.heap.size ns d pre pqs w 0 (.slice ua pre.length uc) w := ⟨[], by rw [List.append_nil]; simpa using hr, fun _ _ => Kp.refl _⟩
  obtain ⟨hl, va, vc, rfl, hva⟩ := hN
  have HST := Lib.hid hst
  have HVA := Lib.hid hva
  have HB := Lib.hid hb
  have HM := Lib.hid hM
  have HK := Lib.hid hk
  have hw0 := hb.size
  have hml := hM.lt
  clear hst hva hb hM hr hk
  go_enter Try.func41, Try.ntmps41
  go_wp2
  go_loopw [11, 0] (fun vc vt wr => ∃ k : Nat, k ≤ ns.length ∧ vc = .int .i64 k ∧ EachNodeS w0.heap.size ns d pre pqs w k vt wr) (fun vc _ _ => ns.length - (intOf vc).toNat)
  case atStart => exact ⟨0, Nat.zero_le _, rfl, HST.out⟩
  case round =>
    obtain ⟨k, hk, rfl, hS⟩ := hrel
    by_cases hlt : k < ns.length
    · obtain ⟨n, hn⟩ : ∃ n, ns[k]? = some n := ⟨_, List.getElem?_eq_getElem hlt⟩
      obtain ⟨t, hR, hKp⟩ := hS
      have hbw : Below w0.heap.size w0 wr := HB.out.trans ((hKp wr.heap.size wr.heap.size).below (by have := (hKp 0 0).size; omega) (by have := (hKp 0 0).size; omega) hw0)
      obtain ⟨b, off, rfl, hna⟩ : ∃ b off, va = some ⟨b, off, none⟩ ∧ NodeAt w0 b (off + k * 7) n := by
        rcases HVA.out with h | ⟨b, off, e, h⟩
        · rw [h] at hn; simp at hn
        · exact ⟨b, off, e, h k n hn⟩
      obtain ⟨kv, c0, c1, c2, c3, c4, c5, c6, ck, -⟩ := hna.kept hbw (Nat.le_refl _)
      obtain ⟨kk1, kk2⟩ := HK.out n (List.mem_of_getElem? hn)
      obtain ⟨ka, kc, rfl, -⟩ := id ck
      obtain ⟨L, hL⟩ : ∃ L, pre ++ (ns.take k).map (movN d) = L := ⟨_, rfl⟩
      have hLl : L.length = pre.length + k := by rw [← hL, List.length_append, List.length_map, List.length_take]; omega
      rw [hL] at hR
      obtain ⟨ta, tc, rfl⟩ := own_slice' hR.2.1
      have hone := one_new wr (.cells #[.int .i64 n.op, .slice ka n.kids.length kc, .int .i64 n.rule, .int .u64 n.s0, .int .u64 n.s1, .int .u64 n.s2, .int .u64 n.s3] 55)
      have m0 := ((hKp (MB + 1) (MB + 1)).bl HM.out (by omega) (by omega) (by decide)).below hone
      have hC := Lib.hid (appC_any n (.slice ka n.kids.length kc) d MB _ (ck.kept hone (Nat.le_refl _)) kk1 (m0.cell (o := 0) rfl) kk2 h3 h4)
      unfold AppCIs nodeV at hC
      have k1 : (k : Int) < (ns.length : Int) := by omega
      have HN := Lib.hid hn
      have HL := Lib.hid hL
      have HLL := Lib.hid hLl
      have hLb : L.length ≤ 2000000 := by omega
      have HRR := Lib.hid (hR.grown hone)
      have HKP := Lib.hid hKp
      have HONE := Lib.hid hone
      have hwr := hbw.size
      clear hn hR hKp hbw hna ck kk1 kk2 hL hLl hone m0
      go_wp2_with (first
        | (go_at_call 42; (with_reducible refine hC.out.mono ?_); rintro e w2 ⟨kv2, rfl, hk2, hb2⟩; obtain ⟨ka2, kc2, rfl⟩ := own_slice' hk2; have HK2 := Lib.hid (own_mono hk2 (base' := w0.heap.size) (by simp; omega)); have HB2 := Lib.hid hb2; have HR2 := Lib.hid (HRR.out.grown hb2); have hbs2 : w0.heap.size ≤ w2.heap.size := Nat.le_trans hwr (Nat.le_trans HONE.out.size hb2.size); clear hk2 hb2)
        | (at_builtin; refine wpList_append_own _ rfl _ _ 34 rfl w0.heap.size 55 ie _ 7 72 Try.underlying34 hie hze0 hze1 hze2 rfl (by decide) _ L.length _ rfl (ownsRow_grown HR2.out.2.1 (one_new _ _)) ⟨_, 0, none⟩ 1 1 (nodeC (movN d n, .slice ka2 (movN d n).kids.length kc2)) rfl rfl (cell_row_one w2 _ _) (by simp [nodeC, Value.oneCell']) (by unfold maxLen; omega) (by omega) (by simp; omega) ?_; intro v5 w5 hown' hgrow _; have HO5 := Lib.hid hown'; have HG5 := Lib.hid hgrow; clear hown' hgrow))
      go_roundw
      case rel => exact ⟨k + 1, by omega, by go_num, EachNodeS.step HN.out (by rw [HL.out]; exact HR2.out) HKP.out HONE.out HB2.out HK2.out (by rw [HL.out]; exact HO5.out) HG5.out⟩
      case measure => simp [intOf]; omega
    · obtain rfl : k = ns.length := by omega
      have k1 : ¬ (ns.length : Int) < (ns.length : Int) := by omega
      obtain ⟨t, ha, hkp⟩ := hS
      rw [List.take_length] at ha
      have HA := Lib.hid ha
      have HKP := Lib.hid hkp
      clear ha hkp
      go_wp2
      go_ret
      exact ⟨_, t, rfl, HA.out, HKP.out⟩
def AppendIs (rs : List PR) (ns' : List PN) (w : World) (e : Ending) (w' : World) : Prop :=
  ∃ (rv nv : Value) (qs : List Value), e = .returned (.tuple #[.agg #[rv, nv], .int .i64 ((ns'.length : Int) - 1)]) ∧ w'.ownsRow w.heap.size 70 2 rv rs.length (rulesC rs) ∧ NRow w.heap.size nv ns' qs w' ∧ Below w.heap.size w w'
theorem NodesAt.part {w : World} {xa : Option Addr} {xc : Nat} {xs : List PN} (h : NodesAt w (.slice xa xs.length xc) xs) (f i : Nat) (hf : f ≤ i) (hi : i < xs.length) :
    ∃ b off, xa = some ⟨b, off, none⟩ ∧ NodesAt w (.slice (some ⟨b, off + f * 7, none⟩) (i + 1 - f) (xc - f)) ((xs.drop f).take (i + 1 - f)) := by
  obtain ⟨hl, a, c, he, hx⟩ := h
  injection he with h1 h2 h3
  subst h1
  rcases hx with h | ⟨b, off, e, hx⟩
  · rw [h] at hi; simp at hi
  · have hlen : ((xs.drop f).take (i + 1 - f)).length = i + 1 - f := by rw [List.length_take, List.length_drop]; omega
    refine ⟨b, off, e, by omega, some ⟨b, off + f * 7, none⟩, xc - f, by rw [hlen], .inr ⟨b, off + f * 7, rfl, fun j n hn => ?_⟩⟩
    have hj : j < i + 1 - f := by have := (List.getElem?_eq_some_iff.1 hn).1; omega
    rw [List.getElem?_take_of_lt hj, List.getElem?_drop] at hn
    have := hx (f + j) n hn
    rw [show off + f * 7 + j * 7 = off + (f + j) * 7 by omega]
    exact this
theorem AppendIs.mk {rs : List PR} {ns' : List PN} {w w1 W5 : World} {R : Nat} {rv nv x y : Value} {cs : Array Value} {qs : List Value} (hw : w.heap.size ≤ w1.heap.size) (hR : w.heap.size ≤ R) (hb : Below w.heap.size w w1) (hB : Below w1.heap.size w1 W5) (hRB : Bl W5 R 36 cs)
    (hT : W5.ownsRow w1.heap.size 70 2 rv rs.length (rulesC rs)) (hN : NRow w1.heap.size nv ns' qs W5) : AppendIs rs ns' w (.returned (.tuple #[.agg #[rv, nv], .int .i64 ((ns'.length : Int) - 1)])) ((W5.setCell ⟨R, 0, none⟩ x).setCell ⟨R, 1, none⟩ y).drew := by
  have hR1 := hRB.set' (o := 0) x
  have a1 := own_mono hT hw
  have a2 := ownsRow_setCell_other a1 (a := ⟨R, 0, none⟩) (own_ne a1 hRB (by decide)) x
  have a3 := ownsRow_setCell_other a2 (a := ⟨R, 1, none⟩) (own_ne a2 hR1 (by decide)) y
  have b0 : NRow w.heap.size nv ns' qs W5 := ⟨hN.1, own_mono hN.2.1 hw, fun j n q a b => own_mono (hN.2.2 j n q a b) hw⟩
  exact ⟨rv, nv, qs, rfl, ownsRow_grown a3 (below_drew1 _), ((b0.set_typ hRB (by decide) (by decide) x).set_typ hR1 (by decide) (by decide) y).grown (below_drew1 _),
    (((hb.trans (hB.mono hw)).setCell (p := ⟨R, 0, none⟩) hR _).setCell (p := ⟨R, 1, none⟩) hR _).drew⟩
set_option maxHeartbeats 8000000 in
set_option maxRecDepth 100000 in
theorem append_any (rv nv : Value) (xa : Option Addr) (xrn xrc xc : Nat) (xra : Option Addr) (rs : List PR) (ns xs : List PN) (i f : Nat) (w : World) (hR : RulesIn w rv rs) (hN : NodesAt w nv ns) (hrs : rs.length ≤ 1000000) (hns : ns.length ≤ 1000000) (hnm : ∀ r, r ∈ rs → r.name.size ≤ 2000000) (hkl : ∀ n, n ∈ ns → n.kids.length ≤ 1000000)
    (hX : NodesAt w (.slice xa xs.length xc) xs) (hxc : xs.length ≤ xc) (hxs : xs.length ≤ 1000000) (hxk : ∀ n, n ∈ xs → n.kids.length ≤ 1000000 ∧ ∀ k, k ∈ n.kids → 0 ≤ k ∧ k ≤ 1000000) (hi : i < xs.length) (hex : exL xs i ≠ -2) (hf : fstL xs i = f) (hfi : f ≤ i) :
    Calls Try.prog 22 #[.agg #[rv, nv], .agg #[.slice xra xrn xrc, .slice xa xs.length xc], .int .i64 i] w (AppendIs rs (ns ++ ((xs.drop f).take (i + 1 - f)).map (movN ((ns.length : Int) - f))) w) := by
  obtain ⟨ra, rc, rfl, -⟩ := hR.cells
  obtain ⟨qs0, na, nc, hql0, rfl, -, -⟩ := hN.cells
  have hmf : ∀ (fn : Fn) (first cap : Array Value) (w : World), (Instr.makeFunc fn first cap).run Try.prog w = .ok (.func fn first cap) w := fun _ _ _ _ => rfl
  obtain ⟨W, hW⟩ : ∃ W, ((w.alloc (.cells #[.slice ra rs.length rc, .slice na ns.length nc] 36)).alloc (.cells #[.slice xra xrn xrc, .slice xa xs.length xc] 36)).alloc (.cells #[.slice none 0 0, .slice none 0 0] 36) = W := ⟨_, rfl⟩
  have hb : Below w.heap.size w W := by rw [← hW]; exact (two_new _ _ _).alloc (by simp; omega) _
  have hG : Bl W w.heap.size 36 #[.slice ra rs.length rc, .slice na ns.length nc] := by rw [← hW]; repeat (first | (refine Bl.new' ?_; simp; done) | refine Bl.past ?_)
  have hXB : Bl W (w.heap.size + 1) 36 #[.slice xra xrn xrc, .slice xa xs.length xc] := by rw [← hW]; repeat (first | (refine Bl.new' ?_; simp; done) | refine Bl.past ?_)
  have hRB : Bl W (w.heap.size + 1 + 1) 36 #[.slice none 0 0, .slice none 0 0] := by rw [← hW]; repeat (first | (refine Bl.new' ?_; simp; done) | refine Bl.past ?_)
  have hC1 := first_any xra xrn xrc (.slice xa xs.length xc) xs i W (hX.kept hb (Nat.le_refl _)) hi hex
  rw [hf] at hC1
  have hC2 : ∀ W', Below W.heap.size W W' → Calls Try.prog 40 #[.agg #[.slice ra rs.length rc, .slice na ns.length nc]] W' (CloneIs rs ns W') := fun W' h => gclone_any _ _ rs ns W' ((hR.kept hb (Nat.le_refl _)).kept h (Nat.le_refl _)) ((hN.kept hb (Nat.le_refl _)).kept h (Nat.le_refl _)) hrs hns hnm hkl
  unfold CloneIs at hC2
  obtain ⟨xb, xo, rfl, hP⟩ := hX.part f i hfi hi
  have g0 := hG.cell (o := 0) (u := .slice ra rs.length rc) rfl
  have g1 := hG.cell (o := 1) (u := .slice na ns.length nc) rfl
  have x0 := hXB.cell (o := 0) (u := .slice xra xrn xrc) rfl
  have x1 := hXB.cell (o := 1) (u := .slice (some ⟨xb, xo, none⟩) xs.length xc) rfl
  have HC1 := Lib.hid hC1
  have HC2 := Lib.hid hC2
  have HP := Lib.hid hP
  have HB := Lib.hid hb
  have HXB := Lib.hid hXB
  have HRB := Lib.hid hRB
  have HG := Lib.hid hG
  have hiI : (i : Int) < xs.length := by omega
  have hiI2 : ¬ (xs.length : Int) ≤ i := by omega
  have hfI : ¬ (f : Int) < 0 := by omega
  have HXK := Lib.hid hxk
  clear hC1 hC2 hP hb hXB hRB hG hR hN hX hxk hnm hkl hql0 hex hf
  go_enter Try.func22, Try.ntmps22
  go_upto_region 6 with (first
    | (go_at_call 39; (with_reducible refine HC1.out.mono ?_); rintro e w1 ⟨rfl, hb1⟩; have HB1 := Lib.hid hb1; have hxx := HXB.out.below hb1; have hgg := HG.out.below hb1; have p0 := hgg.cell (o := 0) (u := .slice ra rs.length rc) rfl; have p1 := hgg.cell (o := 1) (u := .slice na ns.length nc) rfl; have q0 := hxx.cell (o := 0) (u := .slice xra xrn xrc) rfl; have q1 := hxx.cell (o := 1) (u := .slice (some ⟨xb, xo, none⟩) xs.length xc) rfl; clear hb1 hxx hgg)
    | (go_at_call 40; (with_reducible refine (HC2.out _ HB1.out).mono ?_); rintro e w2 ⟨rv2, nv2, qs2, rfl, hq2, hr2, hn2, hk2, hb2⟩; obtain ⟨ra2, rc2, rfl⟩ := own_slice' hr2; obtain ⟨na2, nc2, rfl⟩ := own_slice' hn2; have HR2 := Lib.hid hr2; have HN2 : Hid (NRow w1.heap.size (.slice na2 ns.length nc2) ns qs2 w2) := Lib.hid ⟨hq2, hn2, hk2⟩; have HB2 := Lib.hid hb2; clear hr2 hn2 hq2 hk2 hb2))
  obtain ⟨W3, hW3⟩ : ∃ W3, (w2.alloc (.cells #[.slice ra2 rs.length rc2, .slice na2 ns.length nc2] 36)).alloc (.cells #[.int .i64 ((ns.length : Int) - f)] 3) = W3 := ⟨_, rfl⟩
  have hb3 : Below w2.heap.size w2 W3 := by rw [← hW3]; exact two_new _ _ _
  have hG3 : Bl W3 w2.heap.size 36 #[.slice ra2 rs.length rc2, .slice na2 ns.length nc2] := by rw [← hW3]; repeat (first | (refine Bl.new' ?_; simp; done) | refine Bl.past ?_)
  have hM3 : Bl W3 (w2.heap.size + 1) 3 #[.int .i64 ((ns.length : Int) - f)] := by rw [← hW3]; repeat (first | (refine Bl.new' ?_; simp; done) | refine Bl.past ?_)
  have hs1 : W.heap.size ≤ w1.heap.size := HB1.out.size
  have hs2 : w1.heap.size ≤ w2.heap.size := HB2.out.size
  have hs3 := hb3.size
  have hsw : w.heap.size + 3 = W.heap.size := by rw [← hW]; simp
  have hx3 := ((HXB.out.below HB1.out).below HB2.out).below hb3
  have hr3 := ((HRB.out.below HB1.out).below HB2.out).below hb3
  have h30 := hG3.cell (o := 0) (u := .slice ra2 rs.length rc2) rfl
  have h31 := hG3.cell (o := 1) (u := .slice na2 ns.length nc2) rfl
  have hx0 := hx3.cell (o := 0) (u := .slice xra xrn xrc) rfl
  have hx1 := hx3.cell (o := 1) (u := .slice (some ⟨xb, xo, none⟩) xs.length xc) rfl
  have HR3 := Lib.hid (ownsRow_grown HR2.out hb3)
  have HN3 := Lib.hid (HN2.out.grown hb3)
  have HB3 := Lib.hid ((HB.out.trans (HB1.out.mono HB.out.size)).trans ((HB2.out.mono hs1).trans (hb3.mono (Nat.le_trans hs1 hs2)) |>.mono HB.out.size))
  have HG3 := Lib.hid hG3
  have HW3 := Lib.hid hb3
  have HM3 := Lib.hid hM3
  have HRB3 := Lib.hid hr3
  rw [hW3]
  clear hW3 hb3 hG3 hM3 hx3 hr3 p0 p1 q0 q1 g0 g1 x0 x1 HC1 HC2 hW
  have e1 : (f : Int) ≤ (i : Int) + 1 := by omega
  have e2 : (i : Int) + 1 ≤ (xc : Int) := by omega
  have e3 : ¬ xc = f := by omega
  have e4 : (0 : Int) ≤ (i : Int) + 1 := by omega
  have e5 : IntKind.i64.wrap ((i : Int) + 1) = (i : Int) + 1 := by rw [IntKind.wrap_i64]; omega
  have e6 : ((i : Int) + 1).toNat = i + 1 := by omega
  have e7 : ¬ (xc : Int) < (i : Int) + 1 := by omega
  have e8 : ¬ (i : Int) + 1 < (f : Int) := by omega
  have hC3 := eachNode_any w1 (.slice na2 ns.length nc2) (.slice (some ⟨xb, xo + f * 7, none⟩) (i + 1 - f) (xc - f)) ((xs.drop f).take (i + 1 - f)) ns qs2 ((ns.length : Int) - f) (w2.heap.size + 1) W3.drew ((HP.out.kept HB.out (Nat.le_refl _)).kept HB1.out (Nat.le_refl _)) (by rw [List.length_take, List.length_drop]; omega) hns
    (fun n hn => HXK.out n (List.mem_of_mem_drop (List.mem_of_mem_take hn))) ((HB2.out.trans (HW3.out.mono hs2)).trans ((below_drew1 W3).mono (by omega))) (HM3.out.below (below_drew1 W3)) (HN3.out.grown (below_drew1 W3)) (by omega) (by omega)
  have hLl : (ns ++ ((xs.drop f).take (i + 1 - f)).map (movN ((ns.length : Int) - f))).length = ns.length + (i + 1 - f) := by rw [List.length_append, List.length_map, List.length_take, List.length_drop]; omega
  unfold EachNodeIs at hC3
  obtain ⟨L, hL⟩ : ∃ L, ns ++ ((xs.drop f).take (i + 1 - f)).map (movN ((ns.length : Int) - f)) = L := ⟨_, rfl⟩
  rw [hL] at hC3 hLl
  have HLL := Lib.hid hL
  clear hL
  have hLb : L.length ≤ 2000000 := by omega
  have HC3 := Lib.hid hC3
  clear hC3 hLl
  go_region_with (first | (go_at_call 41; (with_reducible refine HC3.out.mono ?_); rintro e w4 ⟨u, t, rfl, hN4, hK4⟩; obtain ⟨ua, uc, rfl⟩ := own_slice' hN4.2.1; have HN4 := Lib.hid hN4; have hg4 := (hK4 W3.heap.size W3.heap.size).bl (HG3.out.below (below_drew1 W3)) (by have := HG3.out.lt; omega) (by have := HG3.out.lt; omega) (by decide); have hr4 := (hK4 W3.heap.size W3.heap.size).bl (HRB3.out.below (below_drew1 W3)) (by have := HRB3.out.lt; omega) (by have := HRB3.out.lt; omega) (by decide); have HT4 := Lib.hid ((hK4 W3.heap.size W3.heap.size).own (ownsRow_grown HR3.out (below_drew1 W3)) (by decide) (fun e => by have := (HR3.out.lt _ e).2; omega) (fun e => by have := (HR3.out.lt _ e).2; omega)); have HB4 := Lib.hid ((hK4 W3.heap.size W3.heap.size).below (by omega) (by omega) (by show _ ≤ W3.heap.size; omega)); have k40 := hg4.cell (o := 0) (u := .slice ra2 rs.length rc2) rfl; have k41 := hg4.cell (o := 1) (u := .slice na2 ns.length nc2) rfl; have kf := hg4.free; have r40 := hr4.cell (o := 0) (u := .slice none 0 0) rfl; have r41 := hr4.cell (o := 1) (u := .slice none 0 0) rfl; have rf4 := hr4.free; have HG4 := Lib.hid hg4; have HRB4 := Lib.hid hr4; clear hN4 hK4 hg4 hr4))
  all_goals go_wp2
  all_goals
    obtain ⟨W5, hW5⟩ : ∃ W5, w4.setCell ⟨w2.heap.size, 1, none⟩ (.slice ua L.length uc) = W5 := ⟨_, rfl⟩
    have hG5 : Bl W5 w2.heap.size 36 #[.slice ra2 rs.length rc2, .slice ua L.length uc] := by rw [← hW5]; exact HG4.out.set' (o := 1) _
    have hR5 : Bl W5 (w.heap.size + 1 + 1) 36 #[.slice none 0 0, .slice none 0 0] := by rw [← hW5]; exact HRB4.out.other (by omega) _
    have hT5 : W5.ownsRow w1.heap.size 70 2 (.slice ra2 rs.length rc2) rs.length (rulesC rs) := by rw [← hW5]; have hT := HT4.out; exact ownsRow_setCell_other hT (a := ⟨w2.heap.size, 1, none⟩) (own_ne hT HG4.out (by decide)) _
    have hN5 : NRow w1.heap.size (.slice ua L.length uc) L (qs2 ++ t) W5 := by rw [← hW5]; exact HN4.out.set_typ HG4.out (by decide) (by decide) _
    have hB5 : Below w1.heap.size w1 W5 := by rw [← hW5]; exact (((HB2.out.trans (HW3.out.mono hs2)).trans ((below_drew1 W3).mono (by omega))).trans HB4.out).setCell (p := ⟨w2.heap.size, 1, none⟩) hs2 _
    have HR5 := Lib.hid hR5
    have HT5 := Lib.hid hT5
    have HN5 := Lib.hid hN5
    have HB5 := Lib.hid hB5
    have z0 := hG5.cell (o := 0) (u := .slice ra2 rs.length rc2) rfl
    have z1 := hG5.cell (o := 1) (u := .slice ua L.length uc) rfl
    have y0 := hR5.cell (o := 0) (u := .slice none 0 0) rfl
    have y1 := hR5.cell (o := 1) (u := .slice none 0 0) rfl
    have yf := hR5.free
    rw [hW5]
    clear hW5 hG5 hR5 hT5 hN5 hB5 k40 k41 kf r40 r41 rf4 h30 h31 hx0 hx1
    go_region
    all_goals go_wp2
    all_goals
      have hz := (HR5.out.set' (o := 0) (.slice ra2 rs.length rc2)).set' (o := 1) (.slice ua L.length uc)
      have hz0 := hz.cell (o := 0) (u := .slice ra2 rs.length rc2) rfl
      have hz1 := hz.cell (o := 1) (u := .slice ua L.length uc) rfl
      exact bodyPost_ret (v := .tuple #[.agg #[.slice ra2 rs.length rc2, .slice ua L.length uc], .int .i64 ((L.length : Int) - 1)]) (by simp [results, Try.results22, go_sem, hz0, hz1]) rfl (by rw [HLL.out]; exact AppendIs.mk (by omega) (by omega) (HB.out.trans (HB1.out.mono HB.out.size)) HB5.out HR5.out HT5.out HN5.out)
end
end Go.Proofs.Ytnebdnonkefloaa
