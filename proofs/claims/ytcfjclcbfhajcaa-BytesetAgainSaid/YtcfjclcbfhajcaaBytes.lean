/- The contract of byteset.Bytes: for every set, a new slice that holds its members in ascending order. -/
import Derived.Test.YtcfjclcbfhajcaaMembers
namespace Go.Proofs.Ytcfjclcbfhajcaa
open Go.RowKit Go.Shelf
attribute [local go_sem] Oper.semAt_some
theorem Try.infoU8 : (Try.prog.info? 5).map (fun i => (i.zero, i.size, i.bytes)) = some (some (.int .u8 0), 1, 1) := by kernel_rfl
theorem ownsRow_base {W : World} {base base' : Nat} {e : TypeId} {size : Nat} {v : Value} {k : Nat} {xs : List Value} (h : W.ownsRow base e size v k xs) (hb : base' ≤ base) : W.ownsRow base' e size v k xs := by
  refine ⟨h.1, ?_⟩
  rcases h.2 with hn | ⟨g, cap, cur, hv, hbg, rest⟩
  · exact .inl hn
  · exact .inr ⟨g, cap, cur, hv, Nat.le_trans hb hbg, rest⟩
/-- what a block that is no part of the row keeps over an append and the store of the new slice into its box -/
theorem keepB_append {W w1 : World} {o : Obj} {v v' : Value} {base B Bs : Nat} {e : TypeId} {size n : Nat} {xs : List Value} (hrow : W.ownsRow base e size v n xs) (hgrow : (W.alloc o).grownBy w1 v.ownBlock)
    (hBs : Bs < base) (hl : Bs < W.heap.size) (hne : B ≠ Bs) : KeepB Bs W (w1.setCell ⟨B, 0, none⟩ v') := by
  have h1 := hgrow.size
  rw [World.size_alloc] at h1
  refine ⟨by simp; omega, ?_⟩
  rw [Below.heap_setCell _ _ _ Bs (by simpa using fun h => hne h.symm), hgrow.block Bs (by simp; omega) (fun e => by have := (hrow.lt Bs e.symm).1; omega), Below.heap_alloc _ _ Bs hl]
set_option maxHeartbeats 2000000 in
set_option maxRecDepth 100000 in
theorem bytes_in (n : Nat) (hn : 3 ≤ n) (f : Nat → Bool) (w : World) :
    CallsIn Fence.wide n Try.prog 11 #[.agg #[.int .u64 (setW f 0), .int .u64 (setW f 1), .int .u64 (setW f 2), .int .u64 (setW f 3)]] w fun e W' =>
      ∃ v, e = .returned v ∧ W'.ownsRow w.heap.size 5 1 v (memb f 256).length ((memb f 256).map fun k : Nat => Value.int .u8 (k : Int)) ∧ Below w.heap.size w W' := by
  have h1 : 1 ≤ n := by omega
  obtain ⟨i0, hi, hz0, hz1, hz2⟩ := info_parts Try.infoU8
  refine callsIn_of_wp_marks Try.func11 rfl trivial ?_ rfl
  simp only [Try.ntmps11, List.size_toArray, List.length_cons, List.length_nil, Nat.reduceAdd, Nat.reduceSub, Array.replicate_succ, Array.replicate_zero, List.push_toArray, List.append_toArray, List.nil_append, List.cons_append]
  gi_wp2_with (refine ⟨trivial, ?_⟩; gi_at_call 24; refine (members_in (n - 1) f _).mono ?_; rintro e w' ⟨rfl, rfl⟩)
  obtain ⟨S, hSv⟩ : ∃ S : Obj, S = .cells #[.int .u64 (setW f 0), .int .u64 (setW f 1), .int .u64 (setW f 2), .int .u64 (setW f 3)] 24 := ⟨_, rfl⟩
  have bO := Boxed.new (w.alloc S) 27 (.slice none 0 0)
  rw [World.size_alloc] at bO
  have hB0 : Below (w.heap.size + 1) (w.alloc S) (((w.alloc S).alloc (.cells #[.slice none 0 0] 27)).alloc S) := ((Below.refl _ _).alloc (by simp) _).alloc (by simp) _
  have hS0 : SetAt f (w.heap.size + 1 + 1) (((w.alloc S).alloc (.cells #[.slice none 0 0] 27)).alloc S) := by rw [hSv]; exact SetAt.new (by simp) rfl rfl rfl rfl
  simp only [← hSv]
  refine wpIn_rangeFunc_ownG rfl h1 (gf := 27) (lb := #[.pointer (some ⟨w.heap.size + 1 + 1, 0, none⟩)]) rfl trivial (enters_of Try.func27 (by kernel_rfl) rfl)
    (members_stops (n - 1) (by omega) (w.heap.size + 1 + 1) f _ hS0) KeepB.trans (keepB_put (by simp)) (Below.refl _ _) (fun _ => rfl)
    (fun pre W => (∃ v, Boxed W (w.heap.size + 1) 27 v ∧ W.ownsRow (w.heap.size + 3) 5 1 v pre.length (pre.map fun x : By => Value.int .u8 (x.1 : Int)) ∧ True) ∧ Below (w.heap.size + 1) (w.alloc S) W ∧ w.heap.size + 3 ≤ W.heap.size)
    (fun _ _ _ => False)
    (OwnFrom.and (Own.from (holdsRow_own (w.heap.size + 3) (w.heap.size + 1) 27 5 1 (fun pre : List By => pre.length) (fun pre => pre.map fun x : By => Value.int .u8 (x.1 : Int)) (fun _ _ => True)) _) (OwnFrom.and (ownFrom_below (by simp) (by simp)) (Own.from (fun _ _ _ _ hs hg _ => Nat.le_trans hs hg.size) _)))
    (fun _ _ _ _ _ hs _ _ => hs)
    ⟨⟨_, bO.alloc _, World.ownsRow_nil _ _ _ _, trivial⟩, hB0, by simp⟩
    (fun x => { tmps := #[.agg #[.int .u64 (setW f 0), .int .u64 (setW f 1), .int .u64 (setW f 2), .int .u64 (setW f 3)], .pointer (some ⟨w.heap.size, 0, none⟩), .slice none 0 0, .pointer (some ⟨w.heap.size + 1, 0, none⟩), .int .u8 (x.1 : Int), .agg #[.int .u64 (setW f 0), .int .u64 (setW f 1), .int .u64 (setW f 2), .int .u64 (setW f 3)], .func (.func 27) #[] #[.pointer (some ⟨w.heap.size + 1 + 1, 0, none⟩)], .int .u8 (x.1 : Int), undef, undef, undef, undef, undef], defers := [] }) ?assign ?body ?done ?stop
  case assign =>
    intro l x W K hK
    gi_wp2
    exact hK
  case body =>
    rintro l pre x W ⟨⟨v, hv, hrow, -⟩, hB, hsz⟩ hlt
    have hc := hv.cell
    gi_wp2_with (gi_at_builtin; go_loud (refine wpListIn_append_own _ rfl _ _ 27 rfl (w.heap.size + 3) 5 i0 (.int .u8 0) 1 1 Try.underlying27 hi hz0 hz1 hz2 rfl (by decide) _ _ _ rfl (hrow.alloc _) ⟨W.heap.size, 0, none⟩ 1 1 [.int .u8 (x.1 : Int)] rfl rfl (cell_one_new _ _ _) (by simp [Value.oneCell']) (by unfold maxLen; omega) (by omega) (by simp; omega) ?_); intro v' w1 hown' hgrow _; obtain ⟨g', cap', rfl⟩ := ownsRow_succ hown'; obtain ⟨hv1, hv2, hr2, hk2, hb2⟩ := hv.appended (by decide) (ownsRow_base hrow (by omega)) (by omega) (Nat.le_refl _) (ownsRow_base hown' (by omega)) hgrow; have hc1 := hv1.cell; have hf1 := hv1.frozen)
    change (World.alloc W _).grownBy w1 v.ownBlock at hgrow
    have hkb := keepB_append (B := w.heap.size + 1) (Bs := w.heap.size + 1 + 1) (v' := .slice (some ⟨g', 0, none⟩) (pre.length + 1) cap') hrow hgrow (by omega) (by omega) (by omega)
    have hrow' := hown'.kept (grownBy_setCell' w1 (w.heap.size + 1) (.slice (some ⟨g', 0, none⟩) (pre.length + 1) cap')) (.inr (hv1.not_row (by decide) hown').symm)
    exact ⟨hk2.from _, hkb, ⟨_, hv2, by simpa using hrow', trivial⟩, hB.trans hb2, Nat.le_trans hsz hkb.1⟩
  case done =>
    rintro D ys W hD hys ⟨⟨v, hv, hrow, -⟩, hB, hsz⟩ hK
    have hc := hv.cell
    gi_wp2
    refine ⟨by simp, .inl ⟨_, _, rfl, run_takeDeferred hK, ?_⟩⟩
    have el : ys.map (fun x : By => Value.int .u8 (x.1 : Int)) = (memb f 256).map fun k : Nat => Value.int .u8 (k : Int) := by rw [← hys, List.map_map]; rfl
    have en : ys.length = (memb f 256).length := by rw [← hys, List.length_map]
    rw [el, en] at hrow
    exact ⟨_, results_tmp rfl _ _ _, v, rfl, ownsRow_base (ownsRow_putObj hrow _ hK rfl) (by omega), ((Below.refl _ w).alloc (Nat.le_refl _) S).trans ((hB.trans (belowK_b (w := w.alloc S) (by simp) W D _ _ (by simp at hD; simp; omega) hK rfl rfl)).mono (by omega))⟩
  case stop =>
    rintro D c pre W _ _ h _
    exact h.elim
theorem bytes_any (f : Nat → Bool) (w : World) :
    Calls Try.prog 11 #[.agg #[.int .u64 (setW f 0), .int .u64 (setW f 1), .int .u64 (setW f 2), .int .u64 (setW f 3)]] w fun e W' =>
      ∃ v, e = .returned v ∧ W'.ownsRow w.heap.size 5 1 v (memb f 256).length ((memb f 256).map fun k : Nat => Value.int .u8 (k : Int)) ∧ Below w.heap.size w W' :=
  callsIn_wide.1 (bytes_in 3 (by omega) f w)
end Go.Proofs.Ytcfjclcbfhajcaa
