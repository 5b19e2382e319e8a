/- measure: Callers; the queue: Less, Swap, Push, Pop; container/heap over it. -/
import Derived.Test.YtklimoepkifnhaaMeasOf
import Derived.Test.YtklimoepkifnhaaGramRCopy
import Derived.Deep.Cut
import Derived.Test.YtklimoepkifnhaaGramOrder
import Derived.Conc.MuLone
import Derived.Deep.QuietTactic
import Derived.Deep.RegionLaw
import Derived.RegionTactic
namespace Go.Proofs.Ytklimoepkifnhaa
section
open Go.RowKit
def natsV (l : List Nat) : List Value := intsV (l.map fun k : Nat => (k : Int))
theorem natsV_snoc (l : List Nat) (k : Nat) : natsV (l ++ [k]) = natsV l ++ [.int .i64 (k : Int)] := by unfold natsV intsV; rw [List.map_append, List.map_append]; rfl
theorem natsV_length (l : List Nat) : (natsV l).length = l.length := by unfold natsV intsV; rw [List.length_map, List.length_map]
def CallersIs (l : List Nat) (w : World) (e : Ending) (w' : World) : Prop := ∃ u, e = .returned u ∧ w'.ownsRow w.heap.size 3 1 u l.length (natsV l) ∧ Below w.heap.size w w'
set_option maxHeartbeats 8000000 in
set_option maxRecDepth 100000 in
theorem callers_any (ra : Option Addr) (rn rc : Nat) (nv : Value) (ns : List PN) (r : Int) (w : World) (hN : NodesAt w nv ns) (hs : ns.length ≤ 1000000) :
    Calls Try.prog 21 #[.agg #[.slice ra rn rc, nv], .int .i64 r] w (CallersIs (callersL ns r) w) := by
  obtain ⟨hl, a, ca, rfl, ha⟩ := id hN
  obtain ⟨ii, hii, hz0, hz1, hz2⟩ := info_parts infoInt
  go_enter Try.func21, Try.ntmps21
  go_wp2
  go_loopw [11, 5] (fun c u wr => ∃ k : Nat, k ≤ ns.length ∧ c = .int .i64 k ∧ wr.ownsRow w.heap.size 3 1 u (memb (isCall ns r) k).length (natsV (memb (isCall ns r) k)) ∧ Below w.heap.size w wr ∧ w.heap.size < wr.heap.size) (fun c _ _ => ns.length - (intOf c).toNat)
  case atStart => exact ⟨0, Nat.zero_le _, rfl, World.ownsRow_nil _ _ _ _, one_new _ _, by simp⟩
  case round =>
    obtain ⟨k, hk, rfl, ho, hb, hz⟩ := hrel
    obtain ⟨ua, uc, rfl⟩ := own_slice' ho
    by_cases hlt : k < ns.length
    · have k1 : (k : Int) < (ns.length : Int) := by omega
      obtain ⟨n, hn⟩ : ∃ n, ns[k]? = some n := ⟨_, List.getElem?_eq_getElem hlt⟩
      rcases ha with h0 | ⟨nb, no, rfl, hca⟩
      · rw [h0] at hlt; exact absurd hlt (Nat.not_lt_zero _)
      obtain ⟨kv, c0, c1, c2, c3, c4, c5, c6, ci, -⟩ := (hca k n hn).kept hb (Nat.le_refl _)
      obtain ⟨ka, kc, rfl, -⟩ := ci
      have HM := Lib.hid (memb_succ (isCall ns r) k)
      have HC := Lib.hid (isCall_at (r := r) hn)
      have HB := Lib.hid hb
      have HO := Lib.hid ho
      have hle := Lib.hid (memb_len (isCall ns r) k)
      clear hca hn hb ho
      cases h1 : decide (n.op = 2) with
      | false =>
        have e1 : (n.op == 2) = false := by simpa using h1
        rw [h1] at HC
        clear h1
        go_wp2
        go_roundw
        case rel => exact ⟨k + 1, by omega, by go_num, by rw [HM.out, HC.out]; simpa using ownsRow_grown HO.out (one_new _ _), HB.out.alloc HB.out.size _, by simp; omega⟩
        case measure => simp [intOf]; omega
      | true =>
        have e1 : n.op = 2 := by simpa using h1
        rw [h1] at HC
        rw [e1] at c0
        clear h1
        cases h2 : decide (n.rule = r) with
        | false =>
          have e2 : (n.rule == r) = false := by simpa using h2
          rw [h2] at HC
          clear h2
          go_wp2
          go_roundw
          case rel => exact ⟨k + 1, by omega, by go_num, by rw [HM.out, HC.out]; simpa using ownsRow_grown HO.out (one_new _ _), HB.out.alloc HB.out.size _, by simp; omega⟩
          case measure => simp [intOf]; omega
        | true =>
          have e2 : (n.rule == r) = true := by simpa using h2
          rw [h2] at HC
          clear h2
          go_wp2_with (at_builtin; refine wpList_append_own _ rfl _ _ 32 rfl w.heap.size 3 ii _ 1 8 Try.underlying32 hii hz0 hz1 hz2 rfl (by decide) _ (memb (isCall ns r) k).length _ rfl (ownsRow_grown (ownsRow_grown HO.out (one_new _ _)) (one_new _ _)) ⟨_, 0, none⟩ 1 1 [.int .i64 (k : Int)] rfl rfl (cell_one_at (by simp) _ _) (by simp [Value.oneCell']) (by have := hle.out; unfold maxLen; omega) (by have := hle.out; omega) (by have := HB.out.size; simp; omega) ?_; intro v5 w5 hown' hgrow _; have HO5 := Lib.hid hown'; have HB5 := Lib.hid ((HB.out.trans ((two_new _ _ _).mono HB.out.size)).grown hgrow (Nat.le_trans HB.out.size (two_new _ _ _).size) (fun g e => (HO.out.lt g e).1)); have hz5 := hgrow.size; clear hown' hgrow)
          go_roundw
          case rel => exact ⟨k + 1, by omega, by go_num, by rw [HM.out, HC.out]; have := HO5.out; simpa [natsV_snoc] using this, HB5.out, by simp at hz5; omega⟩
          case measure => simp [intOf]; omega
    · obtain rfl : k = ns.length := by omega
      have k1 : ¬ (ns.length : Int) < (ns.length : Int) := by omega
      have HO := Lib.hid ho
      have HB := Lib.hid hb
      clear ho hb
      go_wp2
      go_ret
      exact ⟨_, rfl, HO.out, HB.out⟩
end
section
open Go.RowKit
theorem own_set {W : World} {base : Nat} {e : TypeId} {size n c g j : Nat} {xs : List Value} (h : W.ownsRow base e size (.slice (some ⟨g, 0, none⟩) n c) n xs) (u : Value) : (W.setCell ⟨g, j, none⟩ u).ownsRow base e size (.slice (some ⟨g, 0, none⟩) n c) n (xs.set j u) := by
  obtain ⟨hl, h⟩ := h
  refine ⟨by rw [List.length_set]; exact hl, ?_⟩
  rcases h with ⟨h, -⟩ | ⟨g', cap, cur, hv, hb, hh, h1, h2, h3, h4⟩
  · cases h
  · injection hv with e1 e2 e3
    injection e1 with e1
    injection e1 with e1
    subst e1 e3
    refine .inr ⟨g, c, cur.setIfInBounds j u, rfl, hb, heap_setCell_same W g j _ _ u hh, h1, h2, by simpa using h3, ?_⟩
    rw [← h4]
    rw [Array.toList_setIfInBounds, List.take_set]

theorem own_open' {W : World} {base : Nat} {e : TypeId} {size n c : Nat} {a : Option Addr} {xs : List Value} (h : W.ownsRow base e size (.slice a n c) n xs) (hn : 0 < n) : ∃ g, a = some ⟨g, 0, none⟩ ∧ base ≤ g ∧ (∀ j u, xs[j]? = some u → W.cell? ⟨g, j, none⟩ = some u) ∧ ∀ o, W.frozen? ⟨g, o, none⟩ = false := by
  have h' := h
  rcases h.2 with ⟨-, e0⟩ | ⟨g, cap, cur, e, hb, -⟩
  · omega
  · injection e with e1 e2 e3
    subst e1 e3
    exact ⟨g, rfl, hb, fun j u hu => by have := h'.cells rfl j u hu; rw [Addr.add_lit, Nat.zero_add] at this; exact this, fun o => h'.frozenAt o⟩
def Thn' (f : Nat) (g : Array Value) (w : World) (P : World → Ending → World → Prop) : Prop := ∀ W, Below w.heap.size w W → Calls Try.prog f g W (P W)
set_option maxHeartbeats 8000000 in
set_option maxRecDepth 100000 in
theorem qr_load (s : String) (B : Nat) (w : World) : (receiverAt 64 (.val (.pointer (some ⟨B, 0, none⟩))) false (some s)).run Try.prog w = (loadVar 62 ⟨B, 0, none⟩).run Try.prog w := by kernel_rfl
theorem q_method {nm : String} {f : FuncId} (hm : (Try.prog.info? 64).map (fun i => (i.methods.find? (·.name == nm)).map (fun m => (m.path, m.func))) = some (some (#[], some (f, false)))) (k B : Nat) (w : World) (v : Value) (h : (loadVar 62 ⟨B, 0, none⟩).run Try.prog w = .ok v w) :
    (Go.method (k + 1) 64 (.pointer (some ⟨B, 0, none⟩)) nm).run Try.prog w = .ok (f, v) w := by
  cases hi : Try.prog.info? 64 with
  | none => rw [hi] at hm; simp at hm
  | some i =>
    rw [hi] at hm
    simp at hm
    obtain ⟨m, hf, hp, hfn⟩ := hm
    unfold Go.method
    simp [typeInfo, hi, hf, hp, hfn, follow, qr_load, h, Sem.run_bind]
theorem qm_load {B : Nat} {w : World} {a : Option Addr} {n c : Nat} (h : w.cell? ⟨B, 0, none⟩ = some (.slice a n c)) : (loadVar 62 ⟨B, 0, none⟩).run Try.prog w = .ok (.slice a n c) w := by
  simp [go_sem, loadVar, h]
theorem qm_len (B : Nat) (w : World) (a : Option Addr) (n c : Nat) (h : w.cell? ⟨B, 0, none⟩ = some (.slice a n c)) : (Go.method 204 64 (.pointer (some ⟨B, 0, none⟩)) "Len").run Try.prog w = .ok (34, .slice a n c) w :=
  q_method (by kernel_rfl) _ B w _ (qm_load h)
theorem qm_less (B : Nat) (w : World) (a : Option Addr) (n c : Nat) (h : w.cell? ⟨B, 0, none⟩ = some (.slice a n c)) : (Go.method 204 64 (.pointer (some ⟨B, 0, none⟩)) "Less").run Try.prog w = .ok (67, .slice a n c) w :=
  q_method (by kernel_rfl) _ B w _ (qm_load h)
theorem qm_swap (B : Nat) (w : World) (a : Option Addr) (n c : Nat) (h : w.cell? ⟨B, 0, none⟩ = some (.slice a n c)) : (Go.method 204 64 (.pointer (some ⟨B, 0, none⟩)) "Swap").run Try.prog w = .ok (68, .slice a n c) w :=
  q_method (by kernel_rfl) _ B w _ (qm_load h)
theorem qm_push (B : Nat) (w : World) : (Go.method 204 64 (.pointer (some ⟨B, 0, none⟩)) "Push").run Try.prog w = .ok (70, .pointer (some ⟨B, 0, none⟩)) w := by kernel_rfl
theorem qm_pop (B : Nat) (w : World) : (Go.method 204 64 (.pointer (some ⟨B, 0, none⟩)) "Pop").run Try.prog w = .ok (69, .pointer (some ⟨B, 0, none⟩)) w := by kernel_rfl
theorem qc_len (args : Array Value) (w : World) : (callFunc 34 args).run Try.prog w = .ok (.enter 34 args) w := MuLone.run_callFunc_enter Try.func34 (by kernel_rfl) rfl args w
theorem qc_less (args : Array Value) (w : World) : (callFunc 67 args).run Try.prog w = .ok (.enter 67 args) w := MuLone.run_callFunc_enter Try.func67 (by kernel_rfl) rfl args w
theorem qc_swap (args : Array Value) (w : World) : (callFunc 68 args).run Try.prog w = .ok (.enter 68 args) w := MuLone.run_callFunc_enter Try.func68 (by kernel_rfl) rfl args w
theorem qc_push (args : Array Value) (w : World) : (callFunc 70 args).run Try.prog w = .ok (.enter 70 args) w := MuLone.run_callFunc_enter Try.func70 (by kernel_rfl) rfl args w
theorem qc_pop (args : Array Value) (w : World) : (callFunc 69 args).run Try.prog w = .ok (.enter 69 args) w := MuLone.run_callFunc_enter Try.func69 (by kernel_rfl) rfl args w
/-- append onto a row of the call's own, in a region that draws. -/
theorem step_append_own {ops : Array Oper} {o : Oper} {a : Act} {w : World} {K : Act → World → Prop} {Q : Exit → Act → World → Prop} {E : Prop} (hgd : o.guard = none) (s x : Operand) (t : TypeId)
    (ho : o.op = .call { callee := .builtin .append, args := #[s, x], argTypes := #[t, t] })
    (base : Nat) (e : TypeId) (i : TypeInfo) (z : Value) (size bytes : Nat) (ht : Try.prog.underlying t = some (.slice e)) (hi : Try.prog.info? e = some i) (hz : i.zero = some z)
    (hsize : i.size = size) (hby : i.bytes = bytes) (hzs : z.cells.size = size) (hsz : 0 < size) (v : Value) (n : Nat) (xs : List Value) (hs : a.eval s = v) (hown : w.ownsRow base e size v n xs)
    (ad : Addr) (m c : Nat) (news : List Value) (hx : a.eval x = .slice (some ad) m c) (hl : news.length = m * size) (hnews : ∀ j u, news[j]? = some u → w.cell? (ad.add j) = some u) (h1 : ∀ u ∈ news, u.oneCell' = true)
    (h63 : n + m ≤ maxLen) (hbytes : (n + m) * bytes ≤ 140737488355328) (hbase : base ≤ w.heap.size)
    (h : ∀ a' cap' w', w'.ownsRow base e size (.slice a' (n + m) cap') (n + m) (xs ++ news) → w.grownBy w' v.ownBlock → ((Value.slice a' (n + m) cap').ownBlock = v.ownBlock ∨ (Value.slice a' (n + m) cap').ownBlock = some w.heap.size) → K (a.put o.dst (.slice a' (n + m) cap')) w') :
    if Region.wanted o (yielded ops a.tmps) = true then Oper.wp Try.prog o a w K Q else E := by
  have hw : Region.wanted o (yielded ops a.tmps) = true := by simp [Region.wanted, hgd]
  rw [if_pos hw]
  obtain ⟨v', w', hr, h2, h3, -, h5⟩ := run_append_own_at (P := Try.prog) w base t o.type e i z size bytes ht hi hz hsize hby hzs hsz v n xs hown ad m c news hl hnews h1 h63 hbytes hbase
  obtain ⟨a', cap', rfl⟩ : ∃ a' c', v' = .slice a' (n + m) c' := by
    rcases h2.2 with ⟨e, e0⟩ | ⟨g, cap, cur, e, -⟩
    · exact ⟨none, 0, by rw [e, e0]⟩
    · exact ⟨_, _, e⟩
  unfold Oper.wp execOp
  simp only [ho, resolve, invoke, builtin, Sem.run_bind, Sem.run_pure, Result.andThen_ok, List.map_toArray, List.map_cons, List.map_nil, hs, hx, hr]
  exact h a' cap' w' h2 h3 h5
theorem Bl.news {W : World} {b : Nat} {t : TypeId} {cs : List Value} (h : Bl W b t cs.toArray) : ∀ j u, cs[j]? = some u → W.cell? ((⟨b, 0, none⟩ : Addr).add j) = some u := fun j u hu => by
  rw [Addr.add_lit, Nat.zero_add]
  exact h.cell (by rw [List.getElem?_toArray]; exact hu)
theorem below_alloc' {n0 : Nat} {wr W : World} (h : Below n0 wr W) (hn : n0 = wr.heap.size) (o : Obj) : Below n0 wr (W.alloc o) := h.alloc (by rw [hn]; exact h.size) o
theorem q_assert (x : Int) (w : World) : (Instr.typeAssert (.iface 3 (.int .i64 x)) 20 3 false).run Try.prog w = .ok (.int .i64 x) w := by kernel_rfl
/-- The queue in block B holds the numbers l. -/
def QAt (base B : Nat) (l : List Int) (w : World) : Prop := ∃ a cap, Bl w B 62 #[.slice a l.length cap] ∧ w.ownsRow base 3 1 (.slice a l.length cap) l.length (intsV l)
theorem QAt.below {base B : Nat} {l : List Int} {w w' : World} (h : QAt base B l w) (hb : Below w.heap.size w w') : QAt base B l w' := by
  obtain ⟨a, cap, hB, hO⟩ := h
  exact ⟨a, cap, hB.below hb, ownsRow_grown hO hb⟩
theorem QAt.lt {base B : Nat} {l : List Int} {w : World} (h : QAt base B l w) : B < w.heap.size := by
  obtain ⟨a, cap, hB, hO⟩ := h
  exact hB.lt
/-- The numbers stay, in some order, and all else stays. -/
def PermQ (base B : Nat) (l : List Int) (w w' : World) : Prop := ∃ l', QAt base B l' w' ∧ l'.Perm l ∧ Kp base B B 3 w w'
theorem PermQ.refl {base B : Nat} {l : List Int} {w : World} (h : QAt base B l w) : PermQ base B l w w := ⟨l, h, List.Perm.refl _, Kp.of_below (Below.refl _ _)⟩
theorem PermQ.below {base B : Nat} {l : List Int} {w w1 w' : World} (h : PermQ base B l w w1) (hb : Below w1.heap.size w1 w') : PermQ base B l w w' := by
  obtain ⟨l', h1, h2, h3⟩ := h
  exact ⟨l', h1.below hb, h2, h3.trans (Kp.of_below hb)⟩
theorem PermQ.trans {base B : Nat} {l l1 : List Int} {w w1 w' : World} (hp : l1.Perm l) (hk : Kp base B B 3 w w1) (h : PermQ base B l1 w1 w') : PermQ base B l w w' := by
  obtain ⟨l', h1, h2, h3⟩ := h
  exact ⟨l', h1, h2.trans hp, hk.trans h3⟩
theorem qlen_any (a : Option Addr) (n c : Nat) (w : World) : Calls Try.prog 34 #[.slice a n c] w fun e w' => e = .returned (.int .i64 (n : Int)) ∧ w' = w := by
  go_enter Try.func34, Try.ntmps34
  go_wp2
  go_ret
  exact ⟨rfl, rfl⟩
theorem qless_any (g n c i j : Nat) (x y : Int) (w : World) (hi : i < n) (hj : j < n) (hx : w.cell? ⟨g, i, none⟩ = some (.int .i64 x)) (hy : w.cell? ⟨g, j, none⟩ = some (.int .i64 y)) :
    Calls Try.prog 67 #[.slice (some ⟨g, 0, none⟩) n c, .int .i64 (i : Int), .int .i64 (j : Int)] w fun e w' => e = .returned (.bool (decide (x < y))) ∧ Below w.heap.size w w' := by
  have k1 : (i : Int) < (n : Int) := by omega
  have k2 : (j : Int) < (n : Int) := by omega
  go_enter Try.func67, Try.ntmps67
  go_wp2
  go_quiet (fail)
  go_wp2
  go_ret
  exact ⟨rfl, by first | exact below_drewN (Below.refl _ _) | exact (Below.refl _ _).drew | exact Below.refl _ _⟩
theorem intsV_set (l : List Int) (i : Nat) (x : Int) : intsV (l.set i x) = (intsV l).set i (.int .i64 x) := by unfold intsV; rw [List.map_set]
theorem swap_is {base B g i j c : Nat} {l : List Int} {x y : Int} {w : World} (hB : Bl w B 62 #[.slice (some ⟨g, 0, none⟩) l.length c]) (hO : w.ownsRow base 3 1 (.slice (some ⟨g, 0, none⟩) l.length c) l.length (intsV l)) (hx : l[i]? = some x) (hy : l[j]? = some y) :
    PermQ base B l w ((w.setCell ⟨g, i, none⟩ (.int .i64 y)).setCell ⟨g, j, none⟩ (.int .i64 x)) := by
  obtain ⟨hi, rfl⟩ := List.getElem?_eq_some_iff.1 hx
  obtain ⟨hj, rfl⟩ := List.getElem?_eq_some_iff.1 hy
  have hne : B ≠ g := by
    intro e; subst e
    exact row_ne hO ⟨_, _, hB⟩ (by decide) rfl
  have hbg : base ≤ g := (hO.lt g rfl).1
  obtain ⟨cs, hk⟩ : ∃ cs, w.heap[g]? = some (.cells cs 3 (0, 0)) := by
    rcases hO.2 with ⟨h, -⟩ | ⟨g', cap, cur, hv, -, hh, -⟩
    · cases h
    · injection hv with e1 e2 e3
      injection e1 with e1
      injection e1 with e1
      subst e1
      exact ⟨cur, hh⟩
  have h1 := own_set (j := i) hO (.int .i64 l[j])
  have h2 := own_set (j := j) h1 (.int .i64 l[i])
  rw [← intsV_set, ← intsV_set] at h2
  have hb2 := (hB.other (o := i) hne (.int .i64 l[j])).other (o := j) hne (.int .i64 l[i])
  have hk2 := heap_setCell_same w g i _ _ (.int .i64 l[j]) hk
  refine ⟨(l.set i l[j]).set j l[i], ⟨some ⟨g, 0, none⟩, c, ?_, ?_⟩, List.set_set_perm hi hj, (Kp.set hk (.inr (.inr ⟨hbg, rfl⟩)) _).trans (Kp.set hk2 (.inr (.inr ⟨hbg, rfl⟩)) _)⟩
  · rw [List.length_set, List.length_set]; exact hb2
  · rw [List.length_set, List.length_set]; exact h2
theorem set_twin {w : World} {g i j : Nat} {x y : Value} (hx : w.cell? ⟨g, i, none⟩ = some x) (hy : w.cell? ⟨g, j, none⟩ = some y) : (w.setCell ⟨g, i, none⟩ y).cell? ⟨g, j, none⟩ = some y := by
  by_cases e : i = j
  · subst e; exact World.cell?_setCell_same' _ _ _ (by rw [hx]; rfl)
  · rw [World.cell?_setCell_other _ _ _ _ (by intro h; injection h with _ h; exact e h)]; exact hy
theorem PermQ.drew {base B : Nat} {l : List Int} {w w' : World} (h : PermQ base B l w w') : PermQ base B l w w'.drew := h.below ((Below.refl _ _).drew)
set_option maxHeartbeats 2000000 in
theorem qswap_any (base B g c i j : Nat) (l : List Int) (w : World) (hB : Bl w B 62 #[.slice (some ⟨g, 0, none⟩) l.length c]) (hO : w.ownsRow base 3 1 (.slice (some ⟨g, 0, none⟩) l.length c) l.length (intsV l)) (hi : i < l.length) (hj : j < l.length) :
    Calls Try.prog 68 #[.slice (some ⟨g, 0, none⟩) l.length c, .int .i64 (i : Int), .int .i64 (j : Int)] w fun e w' => (∃ v, e = .returned v) ∧ PermQ base B l w w' := by
  obtain ⟨x, hx⟩ : ∃ x, l[i]? = some x := ⟨_, List.getElem?_eq_getElem hi⟩
  obtain ⟨y, hy⟩ : ∃ y, l[j]? = some y := ⟨_, List.getElem?_eq_getElem hj⟩
  obtain ⟨g', e, -, hc, hf⟩ := own_open' hO (by omega)
  injection e with e; injection e with e; subst e
  have cx := hc i (.int .i64 x) (by unfold intsV; rw [List.getElem?_map, hx]; rfl)
  have cy := hc j (.int .i64 y) (by unfold intsV; rw [List.getElem?_map, hy]; rfl)
  have fx := hf i
  have fy := hf j
  have k1 : (i : Int) < (l.length : Int) := by omega
  have k2 : (j : Int) < (l.length : Int) := by omega
  have H1 := Lib.hid (swap_is (w := w) (i := i) (j := j) hB hO hx hy)
  have c3 : (w.setCell ⟨g, i, none⟩ (.int .i64 y)).cell? ⟨g, j, none⟩ = some (.int .i64 y) := set_twin cx cy
  have c4 : (w.setCell ⟨g, j, none⟩ (.int .i64 x)).cell? ⟨g, i, none⟩ = some (.int .i64 x) := set_twin cy cx
  clear hB hO hc hf hx hy hi hj
  go_enter Try.func68, Try.ntmps68
  go_wp2
  go_region
  go_wp2
  go_end0
  exact ⟨⟨_, rfl⟩, H1.out.drew⟩
/-- The last number taken off. -/
theorem qpop_any (base B : Nat) (l : List Int) (x : Int) (w : World) (hQ : QAt base B (l ++ [x]) w) (hl : l.length ≤ 1000000) :
    Calls Try.prog 69 #[.pointer (some ⟨B, 0, none⟩)] w fun e w' => e = .returned (.iface 3 (.int .i64 x)) ∧ QAt base B l w' ∧ Kp base B B 3 w w' := by
  obtain ⟨a, cap, hB, hO⟩ := hQ
  have hlen : (l ++ [x]).length = l.length + 1 := by simp
  rw [hlen] at hB hO
  obtain ⟨g, rfl, -, hc, hf⟩ := own_open' hO (by omega)
  have cx := hc l.length (.int .i64 x) (by unfold intsV; rw [List.getElem?_map, List.getElem?_append_right (Nat.le_refl _), Nat.sub_self]; rfl)
  have b0 : w.cell? ⟨B, 0, none⟩ = some (.slice (some ⟨g, 0, none⟩) (l.length + 1) cap) := hB.cell (o := 0) rfl
  have fb := hB.free 0
  have ew : IntKind.i64.wrap ((l.length : Int) + 1 - 1) = (l.length : Int) := by rw [show (l.length : Int) + 1 - 1 = (l.length : Int) by omega]; exact IntWalk.i64_in _ (by omega)
  have hcut := ownsRow_cut hO (k := l.length) (by omega)
  have hcap : l.length + 1 ≤ cap := by
    obtain ⟨a1, c1, he, h, -⟩ := ownsRow_slice hO
    injection he with _ _ e3
    omega
  have HB := Lib.hid hB
  rw [intsV_append, List.take_left' (intsV_length l)] at hcut
  have HC := Lib.hid (ownsRow_setCell_other hcut (a := ⟨B, 0, none⟩) (row_ne hcut ⟨_, _, hB⟩ (by decide)) (.slice (some ⟨g, 0, none⟩) l.length cap))
  clear hB hO hcut hc hf
  go_enter Try.func69, Try.ntmps69
  go_wp2
  go_ret
  exact ⟨rfl, ⟨_, cap, HB.out.set _, HC.out⟩, Kp.set HB.out (.inl rfl) _⟩
theorem push_end {base B c c5 : Nat} {a a5 : Option Addr} {l : List Int} {x : Int} {w w1 w5 : World} (hO : w.ownsRow base 3 1 (.slice a l.length c) l.length (intsV l)) (hb : Below w.heap.size w w1)
    (ho : w5.ownsRow base 3 1 (.slice a5 (l.length + 1) c5) (l.length + 1) (intsV l ++ [.int .i64 x])) (hg : w1.grownBy w5 (Value.slice a l.length c).ownBlock) (hx : Bl w5 B 62 #[.slice a l.length c]) :
    QAt base B (l ++ [x]) (w5.setCell ⟨B, 0, none⟩ (.slice a5 (l.length + 1) c5)) ∧ Kp base B B 3 w (w5.setCell ⟨B, 0, none⟩ (.slice a5 (l.length + 1) c5)) := by
  have h1 := ownsRow_setCell_other ho (a := ⟨B, 0, none⟩) (row_ne ho ⟨_, _, hx⟩ (by decide)) (.slice a5 (l.length + 1) c5)
  have e : intsV (l ++ [x]) = intsV l ++ [.int .i64 x] := by unfold intsV; rw [List.map_append]; rfl
  have h2 := ownsRow_grown hO hb
  refine ⟨⟨a5, c5, ?_, ?_⟩, ((Kp.of_below hb).trans (Kp.grown hg (fun g e => ?_))).trans (Kp.set hx (.inl rfl) _)⟩
  · rw [List.length_append]; exact hx.set _
  · rw [List.length_append, e]; exact h1
  · obtain ⟨cs, fz, hc⟩ := Lib.ownsRow_kind h2 g e
    exact ⟨(h2.lt g e).1, cs, fz, hc⟩
set_option maxHeartbeats 2000000 in
theorem qpush_any (base B : Nat) (l : List Int) (x : Int) (w : World) (hQ : QAt base B l w) (hl : l.length ≤ 1000000) (hbs : base ≤ w.heap.size) :
    Calls Try.prog 70 #[.pointer (some ⟨B, 0, none⟩), .iface 3 (.int .i64 x)] w fun e w' => (∃ v, e = .returned v) ∧ QAt base B (l ++ [x]) w' ∧ Kp base B B 3 w w' := by
  obtain ⟨a, cap, hB, hO⟩ := hQ
  obtain ⟨ii, hii, hz0, hz1, hz2⟩ := info_parts infoInt
  have b0 : w.cell? ⟨B, 0, none⟩ = some (.slice a l.length cap) := hB.cell (o := 0) rfl
  have fb := hB.free 0
  have lb := hB.lt
  have hta := q_assert x
  have HB := Lib.hid hB
  have HO := Lib.hid hO
  clear hB hO
  go_enter Try.func70, Try.ntmps70
  go_wp2
  go_region_law (refine step_append_own (by rfl) _ _ 62 (by rfl) base 3 ii _ 1 8 Try.underlying62 hii hz0 hz1 hz2 (by rfl) (by decide) (.slice a l.length cap) l.length _ (by simp [Act.eval]) (by refine ownsRow_grown HO.out ?_; repeat (first | exact Below.refl _ _ | refine Below.drew ?_ | refine below_alloc' ?_ rfl _)) _ 1 1 [.int .i64 x] (by simp [Act.eval]; rfl) (by rfl) (by refine Bl.news (t := 3) ?_; repeat (first | (refine Bl.new' ?_; simp; done) | refine Bl.drew ?_ | refine Bl.past ?_)) (by simp [Value.oneCell']) (by unfold maxLen; omega) (by omega) (by simp; omega) ?_; intro a5 c5 w5 hown5 hgrow5 hat5; have hbw5 : Hid (Below w.heap.size w (w.alloc (.cells #[.int .i64 x] 3)).drew) := Lib.hid (Below.drew (below_alloc' (Below.refl _ _) rfl _)); have hg5 := (HB.out.below hbw5.out).grown hgrow5 (fun g e => by obtain ⟨c, fz, hc⟩ := Lib.ownsRow_kind (ownsRow_grown HO.out hbw5.out) g e; exact ⟨c, 3, fz, hc, by decide⟩); have x0 := hg5.cell (o := 0) rfl; have xf := hg5.free; have HO5 := Lib.hid hown5; have HG5 := Lib.hid hgrow5; have HX5 := Lib.hid hg5; clear hown5 hgrow5 hat5 hg5)
  all_goals
    go_wp2
    go_end0
    exact ⟨⟨_, rfl⟩, push_end HO.out hbw5.out HO5.out HG5.out HX5.out⟩
set_option maxHeartbeats 4000000 in
set_option maxRecDepth 100000 in
theorem up_any (base B : Nat) (l : List Int) (j : Nat) (w : World) (hQ : QAt base B l w) (hj : j < l.length) (hl : l.length ≤ 1000000) :
    Calls Try.prog 40 #[.iface 64 (.pointer (some ⟨B, 0, none⟩)), .int .i64 (j : Int)] w fun e w' => (∃ v, e = .returned v) ∧ PermQ base B l w w' := by
  go_enter Try.func40, Try.ntmps40
  go_wp2
  go_loopw [1] (fun c wr => ∃ (l' : List Int) (j : Nat), c = .int .i64 (j : Int) ∧ QAt base B l' wr ∧ l'.Perm l ∧ j < l'.length ∧ Kp base B B 3 w wr) (fun c _ => (intOf c).toNat)
  case atStart => exact ⟨l, j, rfl, hQ, List.Perm.refl _, hj, Kp.of_below (Below.refl _ _)⟩
  case round =>
    obtain ⟨m, i, rfl, hQm, hpm, him, hkm⟩ := hrel
    have hml : m.length ≤ 1000000 := by rw [hpm.length_eq]; exact hl
    obtain ⟨a, cap, hB, hO⟩ := id hQm
    obtain ⟨g, rfl, -, hc, -⟩ := own_open' hO (by omega)
    have b0 : wr.cell? ⟨B, 0, none⟩ = some (.slice (some ⟨g, 0, none⟩) m.length cap) := hB.cell (o := 0) rfl
    have m1 := qm_less B wr _ _ _ b0
    have q1 := qc_less
    have HK := Lib.hid hkm
    have HP := Lib.hid hpm
    have HB := Lib.hid hB
    have HO := Lib.hid hO
    have HQ := Lib.hid hQm
    by_cases h0 : i = 0
    · subst h0
      clear hkm hpm hB hO hQm hc
      go_wp2
      go_end0
      exact ⟨⟨_, rfl⟩, _, HQ.out, HP.out, HK.out⟩
    · obtain ⟨p, hp⟩ : ∃ p : Nat, ((i : Int) - 1) / 2 = (p : Int) := ⟨(i - 1) / 2, by omega⟩
      have hpi : p < i := by omega
      obtain ⟨x, hx⟩ : ∃ x, m[i]? = some x := ⟨_, List.getElem?_eq_getElem him⟩
      obtain ⟨y, hy⟩ : ∃ y, m[p]? = some y := ⟨_, List.getElem?_eq_getElem (by omega)⟩
      have HC := Lib.hid (qless_any g m.length cap i p x y wr him (by omega) (hc i _ (by unfold intsV; rw [List.getElem?_map, hx]; rfl)) (hc p _ (by unfold intsV; rw [List.getElem?_map, hy]; rfl)))
      have k1 : ((p : Int) == (i : Int)) = false := by rw [beq_eq_false_iff_ne]; omega
      clear hkm hpm hB hO hQm hc hx hy
      cases hxy : decide (x < y) with
      | false =>
        rw [hxy] at HC
        go_wp2_with (go_at_call 67; (with_reducible refine HC.out.mono ?_); rintro e w2 ⟨rfl, hb⟩; have HB2 := Lib.hid hb; clear hb)
        go_end0
        exact ⟨⟨_, rfl⟩, _, HQ.out.below HB2.out, HP.out, HK.out.trans (Kp.of_below HB2.out)⟩
      | true =>
        rw [hxy] at HC
        go_wp2_with (first
          | (go_at_call 67; (with_reducible refine HC.out.mono ?_); rintro e w2 ⟨rfl, hb⟩; have HB2 := Lib.hid (HB.out.below hb); have HO2 := Lib.hid (ownsRow_grown HO.out hb); have HK2 := Lib.hid (HK.out.trans (Kp.of_below hb)); have b2 : w2.cell? ⟨B, 0, none⟩ = some (.slice (some ⟨g, 0, none⟩) m.length cap) := HB2.out.cell (o := 0) rfl; have m2 := qm_swap B w2 _ _ _ b2; have q2 := qc_swap; clear hb)
          | (go_at_call 68; (with_reducible refine (qswap_any base B g cap p i m _ HB2.out HO2.out (by omega) him).mono ?_); rintro e w3 ⟨⟨v3, rfl⟩, hp3⟩; have HP3 := Lib.hid hp3; clear hp3))
        obtain ⟨m', h1, h2, h3⟩ := HP3.out
        exact ⟨⟨m', p, rfl, h1, h2.trans HP.out, by rw [h2.length_eq]; omega, HK2.out.trans h3⟩, by simp [intOf]; omega⟩
theorem qless_row (base g cap i j : Nat) (m : List Int) (x y : Int) (b : Bool) (W : World) (hO : W.ownsRow base 3 1 (.slice (some ⟨g, 0, none⟩) m.length cap) m.length (intsV m)) (hx : m[i]? = some x) (hy : m[j]? = some y) (hb : decide (x < y) = b) :
    Calls Try.prog 67 #[.slice (some ⟨g, 0, none⟩) m.length cap, .int .i64 (i : Int), .int .i64 (j : Int)] W fun e w' => e = .returned (.bool b) ∧ Below W.heap.size W w' := by
  have hi := (List.getElem?_eq_some_iff.1 hx).1
  have hj := (List.getElem?_eq_some_iff.1 hy).1
  obtain ⟨g', e, -, hc, -⟩ := own_open' hO (by omega)
  injection e with e; injection e with e; subst e
  subst hb
  exact qless_any g m.length cap i j x y W hi hj (hc i _ (by unfold intsV; rw [List.getElem?_map, hx]; rfl)) (hc j _ (by unfold intsV; rw [List.getElem?_map, hy]; rfl))
/-- The queue with its row open, as a walk carries it. -/
def QO (base B g cap : Nat) (m : List Int) (w W : World) : Prop := Bl W B 62 #[.slice (some ⟨g, 0, none⟩) m.length cap] ∧ W.ownsRow base 3 1 (.slice (some ⟨g, 0, none⟩) m.length cap) m.length (intsV m) ∧ Kp base B B 3 w W
theorem QO.below {base B g cap : Nat} {m : List Int} {w W W' : World} (h : QO base B g cap m w W) (hb : Below W.heap.size W W') : QO base B g cap m w W' := ⟨h.1.below hb, ownsRow_grown h.2.1 hb, h.2.2.trans (Kp.of_below hb)⟩
theorem QO.bl {base B g cap : Nat} {m : List Int} {w W : World} (h : QO base B g cap m w W) : Bl W B 62 #[.slice (some ⟨g, 0, none⟩) m.length cap] := h.1
theorem QO.cell {base B g cap : Nat} {m : List Int} {w W : World} (h : QO base B g cap m w W) : W.cell? ⟨B, 0, none⟩ = some (.slice (some ⟨g, 0, none⟩) m.length cap) := h.1.cell (o := 0) rfl
theorem QO.own {base B g cap : Nat} {m : List Int} {w W : World} (h : QO base B g cap m w W) : W.ownsRow base 3 1 (.slice (some ⟨g, 0, none⟩) m.length cap) m.length (intsV m) := h.2.1
theorem QO.kp {base B g cap : Nat} {m : List Int} {w W : World} (h : QO base B g cap m w W) : Kp base B B 3 w W := h.2.2
theorem QO.q {base B g cap : Nat} {m : List Int} {w W : World} (h : QO base B g cap m w W) : QAt base B m W := ⟨_, cap, h.1, h.2.1⟩
theorem QO.open {base B : Nat} {m : List Int} {w W : World} (h : QAt base B m W) (hk : Kp base B B 3 w W) (hm : 0 < m.length) : ∃ g cap, QO base B g cap m w W := by
  obtain ⟨a, cap, hB, hO⟩ := h
  obtain ⟨g, rfl, -⟩ := own_open' hO hm
  exact ⟨g, cap, hB, hO, hk⟩
end
section
open Go.RowKit
set_option maxHeartbeats 8000000 in
set_option maxRecDepth 100000 in
theorem down_any (base B n : Nat) (l : List Int) (w : World) (hQ : QAt base B l w) (hn : n ≤ l.length) (hn0 : 0 < l.length) (hl : l.length ≤ 1000000) :
    Calls Try.prog 41 #[.iface 64 (.pointer (some ⟨B, 0, none⟩)), .int .i64 0, .int .i64 (n : Int)] w fun e w' => (∃ v, e = .returned v) ∧ PermQ base B l w w' := by
  go_enter Try.func41, Try.ntmps41
  go_wp2
  go_loopw [7] (fun c wr => ∃ (m : List Int) (j : Nat), c = .int .i64 (j : Int) ∧ QAt base B m wr ∧ m.Perm l ∧ j < m.length ∧ Kp base B B 3 w wr) (fun c _ => l.length - (intOf c).toNat)
  case atStart => exact ⟨l, 0, rfl, hQ, List.Perm.refl _, hn0, Kp.of_below (Below.refl _ _)⟩
  case round =>
    obtain ⟨m, i, rfl, hQm, hpm, him, hkm⟩ := hrel
    have hlen := hpm.length_eq
    obtain ⟨g, cap, hqo⟩ := QO.open hQm hkm (by omega)
    have b0 := hqo.cell
    have HQ := Lib.hid hqo
    have HP := Lib.hid hpm
    have q1 := qc_less
    have q2 := qc_swap
    have e1 : (2 : Int) * (i : Int) + 1 = ((2 * i + 1 : Nat) : Int) := by omega
    obtain ⟨p, hp⟩ : ∃ p : Nat, p = 2 * i + 1 := ⟨_, rfl⟩
    rw [← hp] at e1
    have w1 : IntKind.i64.wrap ((2 : Int) * (i : Int)) = (2 : Int) * (i : Int) := IntWalk.i64_in _ (by omega)
    have w2 : IntKind.i64.wrap ((2 : Int) * (i : Int) + 1) = (p : Int) := by rw [e1]; exact IntWalk.i64_in _ (by omega)
    have HIM := Lib.hid him
    have HLEN := Lib.hid hlen
    have HPI := Lib.hid hp
    clear hQm hkm hpm hqo hQ e1
    by_cases h0 : n ≤ p
    · have k1 : (n : Int) ≤ (p : Int) := by omega
      clear him hlen hp h0
      go_wp2
      go_ret
      exact ⟨⟨_, rfl⟩, m, HQ.out.q, HP.out, HQ.out.kp⟩
    · have k1 : ¬ (n : Int) ≤ (p : Int) := by omega
      have k2 : ¬ (p : Int) < 0 := by omega
      have m1 := qm_less B wr _ _ _ b0
      obtain ⟨x, hx⟩ : ∃ x, m[i]? = some x := ⟨_, List.getElem?_eq_getElem him⟩
      obtain ⟨y, hy⟩ : ∃ y, m[p]? = some y := ⟨_, List.getElem?_eq_getElem (by omega)⟩
      have e2 : (p : Int) + 1 = ((p + 1 : Nat) : Int) := by omega
      obtain ⟨r, hr⟩ : ∃ r : Nat, r = p + 1 := ⟨_, rfl⟩
      rw [← hr] at e2
      have w3 : IntKind.i64.wrap ((p : Int) + 1) = (r : Int) := by rw [e2]; exact IntWalk.i64_in _ (by omega)
      clear e2
      have HX := Lib.hid hx
      have HY := Lib.hid hy
      have HPL := Lib.hid (show p < m.length by omega)
      have HRI := Lib.hid hr
      by_cases h2 : r < n
      · have k3 : (r : Int) < (n : Int) := by omega
        obtain ⟨z, hz⟩ : ∃ z, m[r]? = some z := ⟨_, List.getElem?_eq_getElem (by omega)⟩
        have HZ := Lib.hid hz
        have HRL := Lib.hid (show r < m.length by omega)
        clear hz hx hy him hlen hp hr h0 h2
        cases hzy : decide (z < y) with
        | true =>
          cases hc : decide (z < x) with
          | false =>
            go_wp2_with (first
              | (go_at_call 67; (with_reducible refine (qless_row base g cap r p m z y true _ HQ.out.own HZ.out HY.out hzy).mono ?_); rintro e w5 ⟨rfl, hb⟩; have HQ2 := Lib.hid (HQ.out.below hb); have b2 := HQ2.out.cell; have m2 := qm_less B w5 _ _ _ b2; clear hb)
              | (go_at_call 67; (with_reducible refine (qless_row base g cap r i m z x false _ HQ2.out.own HZ.out HX.out hc).mono ?_); rintro e w6 ⟨rfl, hb⟩; have HQ3 := Lib.hid (HQ2.out.below hb); have b3 := HQ3.out.cell; have m3 := qm_swap B w6 _ _ _ b3; clear hb))
            go_ret
            exact ⟨⟨_, rfl⟩, m, HQ3.out.q, HP.out, HQ3.out.kp⟩
          | true =>
            go_wp2_with (first
              | (go_at_call 67; (with_reducible refine (qless_row base g cap r p m z y true _ HQ.out.own HZ.out HY.out hzy).mono ?_); rintro e w5 ⟨rfl, hb⟩; have HQ2 := Lib.hid (HQ.out.below hb); have b2 := HQ2.out.cell; have m2 := qm_less B w5 _ _ _ b2; clear hb)
              | (go_at_call 67; (with_reducible refine (qless_row base g cap r i m z x true _ HQ2.out.own HZ.out HX.out hc).mono ?_); rintro e w6 ⟨rfl, hb⟩; have HQ3 := Lib.hid (HQ2.out.below hb); have b3 := HQ3.out.cell; have m3 := qm_swap B w6 _ _ _ b3; clear hb)
              | (go_at_call 68; (with_reducible refine (qswap_any base B g cap i r m _ HQ3.out.bl HQ3.out.own HIM.out HRL.out).mono ?_); rintro e w7 ⟨⟨v7, rfl⟩, hp4⟩; have HP4 := Lib.hid hp4; clear hp4))
            obtain ⟨m', g1, g2, g3⟩ := HP4.out
            exact ⟨⟨m', r, rfl, g1, g2.trans HP.out, by rw [g2.length_eq]; exact HRL.out, HQ3.out.kp.trans g3⟩, by have := HPI.out; have := HRI.out; have := HIM.out; have := HLEN.out; simp [intOf]; omega⟩
        | false =>
          cases hc : decide (y < x) with
          | false =>
            go_wp2_with (first
              | (go_at_call 67; (with_reducible refine (qless_row base g cap r p m z y false _ HQ.out.own HZ.out HY.out hzy).mono ?_); rintro e w5 ⟨rfl, hb⟩; have HQ2 := Lib.hid (HQ.out.below hb); have b2 := HQ2.out.cell; have m2 := qm_less B w5 _ _ _ b2; clear hb)
              | (go_at_call 67; (with_reducible refine (qless_row base g cap p i m y x false _ HQ2.out.own HY.out HX.out hc).mono ?_); rintro e w6 ⟨rfl, hb⟩; have HQ3 := Lib.hid (HQ2.out.below hb); have b3 := HQ3.out.cell; have m3 := qm_swap B w6 _ _ _ b3; clear hb))
            go_ret
            exact ⟨⟨_, rfl⟩, m, HQ3.out.q, HP.out, HQ3.out.kp⟩
          | true =>
            go_wp2_with (first
              | (go_at_call 67; (with_reducible refine (qless_row base g cap r p m z y false _ HQ.out.own HZ.out HY.out hzy).mono ?_); rintro e w5 ⟨rfl, hb⟩; have HQ2 := Lib.hid (HQ.out.below hb); have b2 := HQ2.out.cell; have m2 := qm_less B w5 _ _ _ b2; clear hb)
              | (go_at_call 67; (with_reducible refine (qless_row base g cap p i m y x true _ HQ2.out.own HY.out HX.out hc).mono ?_); rintro e w6 ⟨rfl, hb⟩; have HQ3 := Lib.hid (HQ2.out.below hb); have b3 := HQ3.out.cell; have m3 := qm_swap B w6 _ _ _ b3; clear hb)
              | (go_at_call 68; (with_reducible refine (qswap_any base B g cap i p m _ HQ3.out.bl HQ3.out.own HIM.out HPL.out).mono ?_); rintro e w7 ⟨⟨v7, rfl⟩, hp4⟩; have HP4 := Lib.hid hp4; clear hp4))
            obtain ⟨m', g1, g2, g3⟩ := HP4.out
            exact ⟨⟨m', p, rfl, g1, g2.trans HP.out, by rw [g2.length_eq]; exact HPL.out, HQ3.out.kp.trans g3⟩, by have := HPI.out; have := HRI.out; have := HIM.out; have := HLEN.out; simp [intOf]; omega⟩
      · have k3 : ¬ (r : Int) < (n : Int) := by omega
        clear hx hy him hlen hp hr h0 h2
        cases hc : decide (y < x) with
        | false =>
          go_wp2_with (first
              | (go_at_call 67; (with_reducible refine (qless_row base g cap p i m y x false _ HQ.out.own HY.out HX.out hc).mono ?_); rintro e w6 ⟨rfl, hb⟩; have HQ3 := Lib.hid (HQ.out.below hb); have b3 := HQ3.out.cell; have m3 := qm_swap B w6 _ _ _ b3; clear hb))
          go_ret
          exact ⟨⟨_, rfl⟩, m, HQ3.out.q, HP.out, HQ3.out.kp⟩
        | true =>
          go_wp2_with (first
              | (go_at_call 67; (with_reducible refine (qless_row base g cap p i m y x true _ HQ.out.own HY.out HX.out hc).mono ?_); rintro e w6 ⟨rfl, hb⟩; have HQ3 := Lib.hid (HQ.out.below hb); have b3 := HQ3.out.cell; have m3 := qm_swap B w6 _ _ _ b3; clear hb)
              | (go_at_call 68; (with_reducible refine (qswap_any base B g cap i p m _ HQ3.out.bl HQ3.out.own HIM.out HPL.out).mono ?_); rintro e w7 ⟨⟨v7, rfl⟩, hp4⟩; have HP4 := Lib.hid hp4; clear hp4))
          obtain ⟨m', g1, g2, g3⟩ := HP4.out
          exact ⟨⟨m', p, rfl, g1, g2.trans HP.out, by rw [g2.length_eq]; exact HPL.out, HQ3.out.kp.trans g3⟩, by have := HPI.out; have := HRI.out; have := HIM.out; have := HLEN.out; simp [intOf]; omega⟩
end
section
open Go.RowKit
set_option maxHeartbeats 4000000 in
set_option maxRecDepth 100000 in
theorem hpush_any (base B : Nat) (l : List Int) (x : Int) (w : World) (hQ : QAt base B l w) (hl : l.length ≤ 900000) (hbs : base ≤ w.heap.size) :
    Calls Try.prog 33 #[.iface 64 (.pointer (some ⟨B, 0, none⟩)), .iface 3 (.int .i64 x)] w fun e w' => (∃ v, e = .returned v) ∧ PermQ base B (l ++ [x]) w w' := by
  have m1 := qm_push B w
  have q1 := qc_push
  have q2 := qc_len
  have HC := Lib.hid (qpush_any base B l x w hQ (by omega) hbs)
  have hl2 : (l ++ [x]).length = l.length + 1 := by simp
  clear hQ
  go_enter Try.func33, Try.ntmps33
  go_wp2_with (first
    | (go_at_call 70; (with_reducible refine HC.out.mono ?_); rintro e w2 ⟨⟨v2, rfl⟩, hq2, hk2⟩; have HK2 := Lib.hid hk2; have HQ2 := Lib.hid hq2; obtain ⟨a2, c2, hB2, hO2⟩ := hq2; rw [hl2] at hB2; have b2 : w2.cell? ⟨B, 0, none⟩ = some (.slice a2 (l.length + 1) c2) := hB2.cell (o := 0) rfl; have m2 := qm_len B w2 _ _ _ b2; have ew : IntKind.i64.wrap (((l.length + 1 : Nat) : Int) - 1) = (l.length : Int) := (by rw [show ((l.length + 1 : Nat) : Int) - 1 = (l.length : Int) by omega]; exact IntWalk.i64_in _ (by omega)); clear hB2 hO2 hk2)
    | (go_at_call 34; (with_reducible refine (qlen_any _ _ _ _).mono ?_); rintro e w3 ⟨rfl, hw⟩; obtain rfl := hw.symm; clear hw)
    | (go_at_call 40; (with_reducible refine (up_any base B (l ++ [x]) l.length _ HQ2.out (by rw [hl2]; omega) (by rw [hl2]; omega)).mono ?_); rintro e w4 ⟨⟨v4, rfl⟩, hp4⟩; have HP4 := Lib.hid hp4; clear hp4))
  go_end0
  exact ⟨⟨_, rfl⟩, HP4.out.trans (List.Perm.refl _) HK2.out⟩
def PopIs (base B : Nat) (l : List Int) (w : World) (e : Ending) (w' : World) : Prop := ∃ (x : Int) (m : List Int), e = .returned (.iface 3 (.int .i64 x)) ∧ QAt base B m w' ∧ (m ++ [x]).Perm l ∧ Kp base B B 3 w w'
theorem QAt.last {base B : Nat} {l : List Int} {w : World} (h : QAt base B l w) (h0 : 0 < l.length) : ∃ m x, l = m ++ [x] ∧ QAt base B (m ++ [x]) w := by
  refine ⟨l.dropLast, l.getLast (by intro e; rw [e] at h0; exact absurd h0 (Nat.lt_irrefl _)), ?_, ?_⟩
  · rw [List.dropLast_concat_getLast]
  · rw [List.dropLast_concat_getLast]; exact h
set_option maxHeartbeats 4000000 in
set_option maxRecDepth 100000 in
theorem hpop_any (base B n : Nat) (l : List Int) (w : World) (hQ : QAt base B l w) (hn : l.length = n + 1) (hl : n ≤ 900000) :
    Calls Try.prog 35 #[.iface 64 (.pointer (some ⟨B, 0, none⟩))] w (PopIs base B l w) := by
  obtain ⟨g, cap, hqo⟩ := QO.open hQ (Kp.of_below (Below.refl _ _)) (by omega)
  have b0 := hqo.cell
  have hb := hqo.bl
  have ho := hqo.own
  rw [hn] at b0
  have m1 := qm_len B w _ _ _ b0
  have q1 := qc_len
  have q2 := qc_swap
  have q3 := qc_pop
  have ew : IntKind.i64.wrap (((n + 1 : Nat) : Int) - 1) = (n : Int) := by rw [show ((n + 1 : Nat) : Int) - 1 = (n : Int) by omega]; exact IntWalk.i64_in _ (by omega)
  have m2 := qm_swap B w _ _ _ b0
  have HC := Lib.hid (qswap_any base B g cap 0 n l w hb ho (by omega) (by omega))
  rw [hn, show ((0 : Nat) : Int) = 0 from rfl] at HC
  have HN := Lib.hid hn
  clear hQ hqo hb ho hn
  go_enter Try.func35, Try.ntmps35
  go_wp2_with (first
    | (go_at_call 34; (with_reducible refine (qlen_any _ _ _ _).mono ?_); rintro e w1 ⟨rfl, hw⟩; obtain rfl := hw.symm; clear hw)
    | (go_at_call 68; (with_reducible refine HC.out.mono ?_); rintro e w2 ⟨⟨v2, rfl⟩, l2, hq2, hp2, hk2⟩; have HQ2 := Lib.hid hq2; have HP2 := Lib.hid hp2; have HK2 := Lib.hid hk2; have HL2 := Lib.hid (show l2.length = n + 1 by rw [hp2.length_eq]; exact HN.out); clear hq2 hp2 hk2)
    | (go_at_call 41; (with_reducible refine (down_any base B n l2 _ HQ2.out (by rw [HL2.out]; omega) (by rw [HL2.out]; omega) (by rw [HL2.out]; omega)).mono ?_); rintro e w3 ⟨⟨v3, rfl⟩, l3, hq3, hp3, hk3⟩; have HL3 := Lib.hid (show l3.length = n + 1 by rw [hp3.length_eq]; exact HL2.out); obtain ⟨m, x, hlx, hq4⟩ := hq3.last (by rw [HL3.out]; omega); have HM := Lib.hid (show m.length = n by have := HL3.out; rw [hlx] at this; simpa using this); have HQ3 := Lib.hid hq4; have HP3 := Lib.hid (show (m ++ [x]).Perm l by rw [← hlx]; exact hp3.trans HP2.out); have HK3 := Lib.hid (HK2.out.trans hk3); have m4 := qm_pop B w3; clear hq3 hp3 hk3 hq4 hlx)
    | (go_at_call 69; (with_reducible refine (qpop_any base B m x _ HQ3.out (by rw [HM.out]; omega)).mono ?_); rintro e w4 ⟨rfl, hq5, hk5⟩; have HQ5 := Lib.hid hq5; have HK5 := Lib.hid (HK3.out.trans hk5); clear hq5 hk5))
  go_ret
  exact ⟨x, m, rfl, HQ5.out, HP3.out, HK5.out⟩
end
end Go.Proofs.Ytklimoepkifnhaa
