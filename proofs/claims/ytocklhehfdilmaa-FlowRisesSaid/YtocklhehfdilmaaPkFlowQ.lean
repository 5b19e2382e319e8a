/- flow: the queue: Len, Less, Swap, Push, Pop; container/heap over it. -/
import Derived.Conc.MuLone
import Derived.Deep.QuietTactic
import Derived.Deep.RegionLaw
import Derived.RegionTactic
import Derived.Test.YtocklhehfdilmaaPkK
import Derived.Test.YtocklhehfdilmaaPkFlowRow
namespace Go.Proofs.Ytocklhehfdilmaa
open Go.RowKit
section
theorem fm_len (B : Nat) (w : World) : (Go.method 202 56 (.pointer (some ⟨B, 0, none⟩)) "Len").run Try.prog w = .ok (26, .pointer (some ⟨B, 0, none⟩)) w := by kernel_rfl
theorem fm_less (B : Nat) (w : World) : (Go.method 202 56 (.pointer (some ⟨B, 0, none⟩)) "Less").run Try.prog w = .ok (64, .pointer (some ⟨B, 0, none⟩)) w := by kernel_rfl
theorem fm_swap (B : Nat) (w : World) : (Go.method 202 56 (.pointer (some ⟨B, 0, none⟩)) "Swap").run Try.prog w = .ok (67, .pointer (some ⟨B, 0, none⟩)) w := by kernel_rfl
theorem fm_push (B : Nat) (w : World) : (Go.method 202 56 (.pointer (some ⟨B, 0, none⟩)) "Push").run Try.prog w = .ok (66, .pointer (some ⟨B, 0, none⟩)) w := by kernel_rfl
theorem fm_pop (B : Nat) (w : World) : (Go.method 202 56 (.pointer (some ⟨B, 0, none⟩)) "Pop").run Try.prog w = .ok (65, .pointer (some ⟨B, 0, none⟩)) w := by kernel_rfl
theorem fc_len (args : Array Value) (w : World) : (callFunc 26 args).run Try.prog w = .ok (.enter 26 args) w := MuLone.run_callFunc_enter Try.func26 (by kernel_rfl) rfl args w
theorem fc_less (args : Array Value) (w : World) : (callFunc 64 args).run Try.prog w = .ok (.enter 64 args) w := MuLone.run_callFunc_enter Try.func64 (by kernel_rfl) rfl args w
theorem fc_swap (args : Array Value) (w : World) : (callFunc 67 args).run Try.prog w = .ok (.enter 67 args) w := MuLone.run_callFunc_enter Try.func67 (by kernel_rfl) rfl args w
theorem fc_push (args : Array Value) (w : World) : (callFunc 66 args).run Try.prog w = .ok (.enter 66 args) w := MuLone.run_callFunc_enter Try.func66 (by kernel_rfl) rfl args w
theorem fc_pop (args : Array Value) (w : World) : (callFunc 65 args).run Try.prog w = .ok (.enter 65 args) w := MuLone.run_callFunc_enter Try.func65 (by kernel_rfl) rfl args w
end
section
variable {base B : Nat} {hv : Value} {l : List Int} {w w1 w' : World}
/-- The queue in block B holds the numbers l; hv is its slice of marks. -/
def QF (base B : Nat) (hv : Value) (l : List Int) (w : World) : Prop := ∃ a cap, Bl w B 69 #[.slice a l.length cap, hv] ∧ w.ownsRow base 3 1 (.slice a l.length cap) l.length (intsV l)
theorem QF.below (h : QF base B hv l w) (hb : Below w.heap.size w w') : QF base B hv l w' := by
  obtain ⟨a, cap, hB, hO⟩ := h
  exact ⟨a, cap, hB.below hb, ownsRow_grown hO hb⟩
theorem QF.lt (h : QF base B hv l w) : B < w.heap.size := by
  obtain ⟨a, cap, hB, hO⟩ := h
  exact hB.lt
/-- The numbers stay, in some order, and all else stays. -/
def PermF (base B : Nat) (hv : Value) (l : List Int) (w w' : World) : Prop := ∃ l', QF base B hv l' w' ∧ l'.Perm l ∧ Kp base B B 3 w w'
theorem PermF.refl (h : QF base B hv l w) : PermF base B hv l w w := ⟨l, h, List.Perm.refl _, Kp.of_below (Below.refl _ _)⟩
theorem PermF.below (h : PermF base B hv l w w1) (hb : Below w1.heap.size w1 w') : PermF base B hv l w w' := by
  obtain ⟨l', h1, h2, h3⟩ := h
  exact ⟨l', h1.below hb, h2, h3.trans (Kp.of_below hb)⟩
theorem PermF.trans {l1 : List Int} (hp : l1.Perm l) (hk : Kp base B B 3 w w1) (h : PermF base B hv l1 w1 w') : PermF base B hv l w w' := by
  obtain ⟨l', h1, h2, h3⟩ := h
  exact ⟨l', h1, h2.trans hp, hk.trans h3⟩
theorem PermF.drew (h : PermF base B hv l w w') : PermF base B hv l w w'.drew := h.below ((Below.refl _ _).drew)
theorem flen_any (base B : Nat) (hv : Value) (l : List Int) (w : World) (h : QF base B hv l w) : Calls Try.prog 26 #[.pointer (some ⟨B, 0, none⟩)] w fun e w' => e = .returned (.int .i64 (l.length : Int)) ∧ w' = w := by
  obtain ⟨a, cap, hB, -⟩ := h
  have b0 : w.cell? ⟨B, 0, none⟩ = some (.slice a l.length cap) := hB.cell (o := 0) rfl
  have lb := hB.lt
  clear hB
  go_enter Try.func26, Try.ntmps26
  go_wp2
  go_ret
  exact ⟨rfl, rfl⟩
theorem fless_any (base B i j : Nat) (hv : Value) (l : List Int) (x y : Int) (b : Bool) (w : World) (h : QF base B hv l w) (hx : l[i]? = some x) (hy : l[j]? = some y) (hb : decide (x < y) = b) :
    Calls Try.prog 64 #[.pointer (some ⟨B, 0, none⟩), .int .i64 (i : Int), .int .i64 (j : Int)] w fun e w' => e = .returned (.bool b) ∧ Below w.heap.size w w' := by
  subst hb
  have hi := (List.getElem?_eq_some_iff.1 hx).1
  have hj := (List.getElem?_eq_some_iff.1 hy).1
  obtain ⟨a, cap, hB, hO⟩ := h
  obtain ⟨g, rfl, -, hc, -⟩ := own_open' hO (by omega)
  have b0 : w.cell? ⟨B, 0, none⟩ = some (.slice (some ⟨g, 0, none⟩) l.length cap) := hB.cell (o := 0) rfl
  have lb := hB.lt
  have cx := hc i (.int .i64 x) (by unfold intsV; rw [List.getElem?_map, hx]; rfl)
  have cy := hc j (.int .i64 y) (by unfold intsV; rw [List.getElem?_map, hy]; rfl)
  have k1 : (i : Int) < (l.length : Int) := by omega
  have k2 : (j : Int) < (l.length : Int) := by omega
  clear hB hO hc hx hy hi hj
  go_enter Try.func64, Try.ntmps64
  go_wp2
  go_quiet (fail)
  go_wp2
  go_ret
  exact ⟨rfl, by first | exact below_drewN (Below.refl _ _) | exact (Below.refl _ _).drew | exact Below.refl _ _⟩
theorem fswap_is {g i j c : Nat} {x y : Int} (hB : Bl w B 69 #[.slice (some ⟨g, 0, none⟩) l.length c, hv]) (hO : w.ownsRow base 3 1 (.slice (some ⟨g, 0, none⟩) l.length c) l.length (intsV l)) (hx : l[i]? = some x) (hy : l[j]? = some y) :
    PermF base B hv l w ((w.setCell ⟨g, i, none⟩ (.int .i64 y)).setCell ⟨g, j, none⟩ (.int .i64 x)) := by
  obtain ⟨hi, rfl⟩ := List.getElem?_eq_some_iff.1 hx
  obtain ⟨hj, rfl⟩ := List.getElem?_eq_some_iff.1 hy
  have hne : B ≠ g := by
    intro e; subst e
    exact row_ne hO ⟨_, _, hB⟩ (by decide) rfl
  have hbg : base ≤ g := (hO.lt g rfl).1
  obtain ⟨cs, hk⟩ : ∃ cs, w.heap[g]? = some (.cells cs 3 (0, 0)) := by
    rcases hO.2 with ⟨h, -⟩ | ⟨g', cap, cur, hv, -, hh, -⟩
    · cases h
    · injection hv with e1 e2 e3
      injection e1 with e1
      injection e1 with e1
      subst e1
      exact ⟨cur, hh⟩
  have h1 := own_set (j := i) hO (.int .i64 l[j])
  have h2 := own_set (j := j) h1 (.int .i64 l[i])
  have es : ∀ (l : List Int) (i : Nat) (x : Int), intsV (l.set i x) = (intsV l).set i (.int .i64 x) := fun l i x => by unfold intsV; rw [List.map_set]
  rw [← es, ← es] at h2
  have hb2 := (hB.other (o := i) hne (.int .i64 l[j])).other (o := j) hne (.int .i64 l[i])
  have hk2 := heap_setCell_same w g i _ _ (.int .i64 l[j]) hk
  refine ⟨(l.set i l[j]).set j l[i], ⟨some ⟨g, 0, none⟩, c, ?_, ?_⟩, List.set_set_perm hi hj, (Kp.set hk (.inr (.inr ⟨hbg, rfl⟩)) _).trans (Kp.set hk2 (.inr (.inr ⟨hbg, rfl⟩)) _)⟩
  · rw [List.length_set, List.length_set]; exact hb2
  · rw [List.length_set, List.length_set]; exact h2
set_option maxHeartbeats 4000000 in
theorem fswap_any (base B i j : Nat) (hv : Value) (l : List Int) (w : World) (h : QF base B hv l w) (hi : i < l.length) (hj : j < l.length) :
    Calls Try.prog 67 #[.pointer (some ⟨B, 0, none⟩), .int .i64 (i : Int), .int .i64 (j : Int)] w fun e w' => (∃ v, e = .returned v) ∧ PermF base B hv l w w' := by
  obtain ⟨a, c, hB, hO⟩ := h
  obtain ⟨x, hx⟩ : ∃ x, l[i]? = some x := ⟨_, List.getElem?_eq_getElem hi⟩
  obtain ⟨y, hy⟩ : ∃ y, l[j]? = some y := ⟨_, List.getElem?_eq_getElem hj⟩
  obtain ⟨g, rfl, -, hc, hf⟩ := own_open' hO (by omega)
  have cx := hc i (.int .i64 x) (by unfold intsV; rw [List.getElem?_map, hx]; rfl)
  have cy := hc j (.int .i64 y) (by unfold intsV; rw [List.getElem?_map, hy]; rfl)
  have fx := hf i
  have fy := hf j
  have k1 : (i : Int) < (l.length : Int) := by omega
  have k2 : (j : Int) < (l.length : Int) := by omega
  have b0 : w.cell? ⟨B, 0, none⟩ = some (.slice (some ⟨g, 0, none⟩) l.length c) := hB.cell (o := 0) rfl
  have lb := hB.lt
  have H1 := Lib.hid (fswap_is (w := w) (i := i) (j := j) hB hO hx hy)
  have c3 : (w.setCell ⟨g, i, none⟩ (.int .i64 y)).cell? ⟨g, j, none⟩ = some (.int .i64 y) := set_twin cx cy
  have c4 : (w.setCell ⟨g, j, none⟩ (.int .i64 x)).cell? ⟨g, i, none⟩ = some (.int .i64 x) := set_twin cy cx
  clear hB hO hc hf hx hy hi hj
  go_enter Try.func67, Try.ntmps67
  go_wp2
  go_region
  go_wp2
  go_end0
  exact ⟨⟨_, rfl⟩, H1.out.drew⟩
/-- The last number taken off. -/
theorem fpop_any (base B : Nat) (hv : Value) (l : List Int) (x : Int) (w : World) (hQ : QF base B hv (l ++ [x]) w) (hl : l.length ≤ 1000000) :
    Calls Try.prog 65 #[.pointer (some ⟨B, 0, none⟩)] w fun e w' => e = .returned (.iface 3 (.int .i64 x)) ∧ QF base B hv l w' ∧ Kp base B B 3 w w' := by
  obtain ⟨a, cap, hB, hO⟩ := hQ
  have hlen : (l ++ [x]).length = l.length + 1 := by simp
  rw [hlen] at hB hO
  obtain ⟨g, rfl, -, hc, hf⟩ := own_open' hO (by omega)
  have cx := hc l.length (.int .i64 x) (by unfold intsV; rw [List.getElem?_map, List.getElem?_append_right (Nat.le_refl _), Nat.sub_self]; rfl)
  have b0 : w.cell? ⟨B, 0, none⟩ = some (.slice (some ⟨g, 0, none⟩) (l.length + 1) cap) := hB.cell (o := 0) rfl
  have fb := hB.free 0
  have ew : IntKind.i64.wrap ((l.length : Int) + 1 - 1) = (l.length : Int) := by rw [show (l.length : Int) + 1 - 1 = (l.length : Int) by omega]; exact IntWalk.i64_in _ (by omega)
  have hcut := ownsRow_cut hO (k := l.length) (by omega)
  have hcap : l.length + 1 ≤ cap := by
    obtain ⟨a1, c1, he, h, -⟩ := ownsRow_sliceI hO
    injection he with _ _ e3
    omega
  have HB := Lib.hid hB
  rw [intsV_append, List.take_left' (intsV_length l)] at hcut
  have HC := Lib.hid (ownsRow_setCell_other hcut (a := ⟨B, 0, none⟩) (row_ne hcut ⟨_, _, hB⟩ (by decide)) (.slice (some ⟨g, 0, none⟩) l.length cap))
  clear hB hO hcut hc hf
  go_enter Try.func65, Try.ntmps65
  go_wp2
  go_ret
  exact ⟨rfl, ⟨_, cap, HB.out.set' _, HC.out⟩, Kp.set HB.out (.inl rfl) _⟩
theorem fpush_end {c c5 : Nat} {a a5 : Option Addr} {x : Int} {w5 : World} (hO : w.ownsRow base 3 1 (.slice a l.length c) l.length (intsV l)) (hb : Below w.heap.size w w1)
    (ho : w5.ownsRow base 3 1 (.slice a5 (l.length + 1) c5) (l.length + 1) (intsV l ++ [.int .i64 x])) (hg : w1.grownBy w5 (Value.slice a l.length c).ownBlock) (hx : Bl w5 B 69 #[.slice a l.length c, hv]) :
    QF base B hv (l ++ [x]) (w5.setCell ⟨B, 0, none⟩ (.slice a5 (l.length + 1) c5)) ∧ Kp base B B 3 w (w5.setCell ⟨B, 0, none⟩ (.slice a5 (l.length + 1) c5)) := by
  have h1 := ownsRow_setCell_other ho (a := ⟨B, 0, none⟩) (row_ne ho ⟨_, _, hx⟩ (by decide)) (.slice a5 (l.length + 1) c5)
  have e : intsV (l ++ [x]) = intsV l ++ [.int .i64 x] := by unfold intsV; rw [List.map_append]; rfl
  have h2 := ownsRow_grown hO hb
  refine ⟨⟨a5, c5, ?_, ?_⟩, ((Kp.of_below hb).trans (Kp.grown hg (fun g e => ?_))).trans (Kp.set hx (.inl rfl) _)⟩
  · rw [List.length_append]; exact hx.set' _
  · rw [List.length_append, e]; exact h1
  · obtain ⟨cs, fz, hc⟩ := Lib.ownsRow_kind h2 g e
    exact ⟨(h2.lt g e).1, cs, fz, hc⟩
set_option maxHeartbeats 4000000 in
theorem fpush_any (base B : Nat) (hv : Value) (l : List Int) (x : Int) (w : World) (hQ : QF base B hv l w) (hl : l.length ≤ 1000000) (hbs : base ≤ w.heap.size) :
    Calls Try.prog 66 #[.pointer (some ⟨B, 0, none⟩), .iface 3 (.int .i64 x)] w fun e w' => (∃ v, e = .returned v) ∧ QF base B hv (l ++ [x]) w' ∧ Kp base B B 3 w w' := by
  obtain ⟨a, cap, hB, hO⟩ := hQ
  obtain ⟨ii, hii, hz0, hz1, hz2⟩ := info_parts infoInt
  have b0 : w.cell? ⟨B, 0, none⟩ = some (.slice a l.length cap) := hB.cell (o := 0) rfl
  have fb := hB.free 0
  have lb := hB.lt
  have hta := q_assert x
  have HB := Lib.hid hB
  have HO := Lib.hid hO
  clear hB hO
  go_enter Try.func66, Try.ntmps66
  go_wp2
  go_region_law (refine step_append_own (by rfl) _ _ 51 (by rfl) base 3 ii _ 1 8 Try.underlying51 hii hz0 hz1 hz2 (by rfl) (by decide) (.slice a l.length cap) l.length _ (by simp [Act.eval]) (by refine ownsRow_grown HO.out ?_; repeat (first | exact Below.refl _ _ | refine Below.drew ?_ | refine below_alloc' ?_ rfl _)) _ 1 1 [.int .i64 x] (by simp [Act.eval]; rfl) (by rfl) (by refine Bl.news (t := 3) ?_; repeat (first | (refine Bl.new' ?_; simp; done) | refine Bl.drew ?_ | refine Bl.past ?_)) (by simp [Value.oneCell']) (by unfold maxLen; omega) (by omega) (by simp; omega) ?_; intro a5 c5 w5 hown5 hgrow5 hat5; have hbw5 : Hid (Below w.heap.size w (w.alloc (.cells #[.int .i64 x] 3)).drew) := Lib.hid (Below.drew (below_alloc' (Below.refl _ _) rfl _)); have hg5 := (HB.out.below hbw5.out).grown hgrow5 (fun g e => by obtain ⟨c, fz, hc⟩ := Lib.ownsRow_kind (ownsRow_grown HO.out hbw5.out) g e; exact ⟨c, 3, fz, hc, by decide⟩); have x0 := hg5.cell (o := 0) rfl; have xf := hg5.free; have HO5 := Lib.hid hown5; have HG5 := Lib.hid hgrow5; have HX5 := Lib.hid hg5; clear hown5 hgrow5 hat5 hg5)
  all_goals
    go_wp2
    go_end0
    exact ⟨⟨_, rfl⟩, fpush_end HO.out hbw5.out HO5.out HG5.out HX5.out⟩
end
end Go.Proofs.Ytocklhehfdilmaa
