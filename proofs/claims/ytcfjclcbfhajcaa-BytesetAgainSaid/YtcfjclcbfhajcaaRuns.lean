/- The contract of byteset.Runs: for every set, a new slice that holds its runs in ascending order. -/
import Derived.Test.YtcfjclcbfhajcaaRefRuns
namespace Go.Proofs.Ytcfjclcbfhajcaa
open Go.RowKit Go.Shelf
attribute [local go_sem] Oper.semAt_some
def acc (pre : List By) : List (Nat × Nat) := (pre.map (·.1)).foldl rstep []
theorem acc_snoc (pre : List By) (x : By) : acc (pre ++ [x]) = rstep (acc pre) x.1 := by
  unfold acc; rw [List.map_append, List.foldl_append]; rfl
theorem rstep_len (l : List (Nat × Nat)) (c : Nat) : (rstep l c).length ≤ l.length + 1 := by
  rcases snoc_or l with h | ⟨l', a', b', h1⟩
  · rw [h]; simp [rstep]
  · rw [h1, rstep_snoc]; split <;> simp
theorem acc_len (pre : List By) : (acc pre).length ≤ pre.length := by
  have : ∀ (l : List Nat) (a : List (Nat × Nat)), (l.foldl rstep a).length ≤ a.length + l.length := by
    intro l
    induction l with
    | nil => intro a; simp
    | cons x l ih => intro a; have := ih (rstep a x); have := rstep_len a x; simp only [List.foldl_cons, List.length_cons]; omega
  have := this (pre.map (·.1)) []
  unfold acc; simpa using this
def runsFrame (f : Nat → Bool) (n : Nat) (x : Int) : Act := { tmps := #[.agg #[.int .u64 (setW f 0), .int .u64 (setW f 1), .int .u64 (setW f 2), .int .u64 (setW f 3)], .pointer (some ⟨n, 0, none⟩), .slice none 0 0, .pointer (some ⟨n + 1, 0, none⟩), .int .u8 x, undef, .agg #[.int .u64 (setW f 0), .int .u64 (setW f 1), .int .u64 (setW f 2), .int .u64 (setW f 3)], .func (.func 27) #[] #[.pointer (some ⟨n + 1 + 1, 0, none⟩)], .int .u8 x, undef, undef, undef, undef, undef, undef, undef, undef, undef, undef, undef, undef, undef, undef, undef, undef, undef, undef, undef, undef, undef, undef, undef, undef, undef, undef, undef], defers := [] }
set_option maxHeartbeats 2000000 in
set_option maxRecDepth 100000 in
theorem runs_in (n : Nat) (hn : 3 ≤ n) (f : Nat → Bool) (w : World) :
    CallsIn Fence.wide n Try.prog 14 #[.agg #[.int .u64 (setW f 0), .int .u64 (setW f 1), .int .u64 (setW f 2), .int .u64 (setW f 3)]] w fun e W' =>
      ∃ v, e = .returned v ∧ W'.ownsRow w.heap.size 32 2 v (runsTo f 256).length (runCells (runsTo f 256)) ∧ Below w.heap.size w W' := by
  have h1 : 1 ≤ n := by omega
  obtain ⟨i0, hi, hz0, hz1, hz2⟩ := info_parts Try.infoRun
  refine callsIn_of_wp_marks Try.func14 rfl trivial ?_ rfl
  simp only [Try.ntmps14, List.size_toArray, List.length_cons, List.length_nil, Nat.reduceAdd, Nat.reduceSub, Array.replicate_succ, Array.replicate_zero, List.push_toArray, List.append_toArray, List.nil_append, List.cons_append]
  gi_wp2_with (refine ⟨trivial, ?_⟩; gi_at_call 24; refine (members_in (n - 1) f _).mono ?_; rintro e w' ⟨rfl, rfl⟩)
  obtain ⟨S, hSv⟩ : ∃ S : Obj, S = .cells #[.int .u64 (setW f 0), .int .u64 (setW f 1), .int .u64 (setW f 2), .int .u64 (setW f 3)] 24 := ⟨_, rfl⟩
  have bO := Boxed.new (w.alloc S) 30 (.slice none 0 0)
  rw [World.size_alloc] at bO
  have hB0 : Below (w.heap.size + 1) (w.alloc S) (((w.alloc S).alloc (.cells #[.slice none 0 0] 30)).alloc S) := ((Below.refl _ _).alloc (by simp) _).alloc (by simp) _
  have hS0 : SetAt f (w.heap.size + 1 + 1) (((w.alloc S).alloc (.cells #[.slice none 0 0] 30)).alloc S) := by rw [hSv]; exact SetAt.new (by simp) rfl rfl rfl rfl
  simp only [← hSv]
  refine wpIn_rangeFunc_ownG rfl h1 (gf := 27) (lb := #[.pointer (some ⟨w.heap.size + 1 + 1, 0, none⟩)]) rfl trivial (enters_of Try.func27 (by kernel_rfl) rfl)
    (members_stops (n - 1) (by omega) (w.heap.size + 1 + 1) f _ hS0) KeepB.trans (keepB_put (by simp)) (Below.refl _ _) (fun _ => rfl)
    (fun pre W => (∃ v, Boxed W (w.heap.size + 1) 30 v ∧ W.ownsRow (w.heap.size + 3) 32 2 v (acc pre).length (runCells (acc pre)) ∧ True) ∧ Below (w.heap.size + 1) (w.alloc S) W ∧ w.heap.size + 3 ≤ W.heap.size)
    (fun _ _ _ => False)
    (OwnFrom.and (Own.from (holdsRow_own (w.heap.size + 3) (w.heap.size + 1) 30 32 2 (fun pre : List By => (acc pre).length) (fun pre => runCells (acc pre)) (fun _ _ => True)) _) (OwnFrom.and (ownFrom_below (by simp) (by simp)) (Own.from (fun _ _ _ _ hs hg _ => Nat.le_trans hs hg.size) _)))
    (fun _ _ _ _ _ hs _ _ => hs)
    ⟨⟨_, bO.alloc _, World.ownsRow_nil _ _ _ _, trivial⟩, hB0, by simp⟩
    (fun x => runsFrame f w.heap.size x.1) ?assign ?body ?done ?stop
  case assign =>
    intro l x W K hK
    unfold runsFrame at hK
    gi_wp2
    exact hK
  case body =>
    rintro l pre x W ⟨⟨v, hv, hrow, -⟩, hB, hsz⟩ hlt
    clear hSv bO hB0 hS0
    have hc := hv.cell
    have hal := acc_len pre
    have hst := acc_snoc pre x
    obtain ⟨x, hx⟩ := x
    unfold runsFrame
    dsimp only at hst ⊢
    rcases snoc_or (acc pre) with h0 | ⟨l', a, b, h1⟩
    · rw [h0] at hrow
      rw [h0, rstep_nil] at hst
      obtain ⟨a, cap, rfl⟩ : ∃ a cap, v = .slice a 0 cap := by
        rcases hrow.2 with ⟨h, _⟩ | ⟨g, cap, cur, h, _⟩
        · exact ⟨_, _, h⟩
        · exact ⟨_, _, h⟩
      have HS := Lib.hid hst
      clear hst h0
      have hrow0 : W.ownsRow (w.heap.size + 3) 32 2 (.slice a 0 cap) 0 [] := hrow
      clear hrow
      gi_wp2_with (gi_at_builtin; go_loud (refine wpListIn_append_own _ rfl _ _ 30 rfl (w.heap.size + 3) 32 i0 (.agg #[.int .u8 0, .int .u8 0]) 2 2 Try.underlying30 hi hz0 hz1 hz2 rfl (by decide) _ _ _ rfl (hrow0.alloc _) ⟨W.heap.size, 0, none⟩ 1 1 [.int .u8 (x : Int), .int .u8 (x : Int)] rfl rfl (cell_two_new _ _ _ _) (by simp [Value.oneCell']) (by unfold maxLen; omega) (by omega) (by simp; omega) ?_); intro v' w1 hown' hgrow _; obtain ⟨g', cap', rfl⟩ := ownsRow_succ hown'; obtain ⟨hv1, hv2, hr2, hk2, hb2⟩ := hv.appended (by decide) (ownsRow_base hrow0 (by omega)) (by omega) (Nat.le_refl _) (ownsRow_base hown' (by omega)) hgrow; have hc1 := hv1.cell; have hf1 := hv1.frozen)
      change (World.alloc W _).grownBy w1 (Value.ownBlock (.slice a 0 cap)) at hgrow
      have hkb := keepB_append (B := w.heap.size + 1) (Bs := w.heap.size + 1 + 1) (v' := .slice (some ⟨g', 0, none⟩) (0 + 1) cap') hrow0 hgrow (by omega) (by omega) (by omega)
      have hrow' := hown'.kept (grownBy_setCell' w1 (w.heap.size + 1) (.slice (some ⟨g', 0, none⟩) (0 + 1) cap')) (.inr (hv1.not_row (by decide) hown').symm)
      exact ⟨hk2.from _, hkb, ⟨_, hv2, (by rw [HS.out]; exact hrow'), trivial⟩, hB.trans hb2, Nat.le_trans hsz hkb.1⟩
    · rw [h1, rstep_snoc] at hst
      rw [h1, List.length_append, List.length_singleton, runCells_snoc] at hrow
      rw [h1, List.length_append] at hal
      obtain ⟨g, cap, rfl⟩ := ownsRow_succ hrow
      have hcell := hrow.cells rfl (l'.length * 2 + 1) (.int .u8 (b : Int)) (by rw [List.getElem?_append_right (by rw [runCells_len]; omega), runCells_len, show l'.length * 2 + 1 - l'.length * 2 = 1 from by omega]; rfl)
      rw [Addr.add_lit, Nat.zero_add] at hcell
      have hal' : l'.length + 1 ≤ pre.length := hal
      clear h1 hal
      have hfz := hrow.frozenAt (l'.length * 2 + 1)
      by_cases hbx : b = (x + 255) % 256
      · rw [if_pos hbx] at hst
        have HS := Lib.hid hst
        have he : ((b : Int) == ((x : Int) - 1) % 256) = true := by rw [beq_iff_eq]; omega
        clear hst hbx
        gi_wp2
        obtain ⟨hrow1, hg1⟩ := hrow.stored (l'.length * 2 + 1) (.int .u8 (x : Int))
        have hgl := (hrow.lt g rfl).1
        have hset : (runCells l' ++ [Value.int .u8 (a : Int), .int .u8 (b : Int)]).set (l'.length * 2 + 1) (.int .u8 (x : Int)) = runCells (l' ++ [(a, x)]) := by
          rw [runCells_snoc, List.set_append_right _ _ (by rw [runCells_len]; omega), runCells_len, show l'.length * 2 + 1 - l'.length * 2 = 1 from by omega]; rfl
        rw [hset] at hrow1
        refine ⟨(KeepsOthers.setCell _ _ _).from _, ⟨by simp, ?_⟩, ⟨_, hv.kept hg1 (by intro e; injection e; omega), (by rw [HS.out, List.length_append]; exact hrow1)⟩, hB.setCell (by show w.heap.size + 1 ≤ g; omega) _, by simpa using hsz⟩
        exact Below.heap_setCell _ _ _ _ (by show w.heap.size + 1 + 1 ≠ g; omega)
      · rw [if_neg hbx] at hst
        have HS := Lib.hid hst
        have he : ((b : Int) == ((x : Int) - 1) % 256) = false := by rw [beq_eq_false_iff_ne]; omega
        clear hst hbx
        gi_wp2_with (gi_at_builtin; go_loud (refine wpListIn_append_own _ rfl _ _ 30 rfl (w.heap.size + 3) 32 i0 (.agg #[.int .u8 0, .int .u8 0]) 2 2 Try.underlying30 hi hz0 hz1 hz2 rfl (by decide) _ _ _ rfl (hrow.alloc _) ⟨W.heap.size, 0, none⟩ 1 1 [.int .u8 (x : Int), .int .u8 (x : Int)] rfl rfl (cell_two_new _ _ _ _) (by simp [Value.oneCell']) (by unfold maxLen; omega) (by omega) (by simp; omega) ?_); intro v' w1 hown' hgrow _; obtain ⟨g', cap', rfl⟩ := ownsRow_succ hown'; obtain ⟨hv1, hv2, hr2, hk2, hb2⟩ := hv.appended (by decide) (ownsRow_base hrow (by omega)) (by omega) (Nat.le_refl _) (ownsRow_base hown' (by omega)) hgrow; have hc1 := hv1.cell; have hf1 := hv1.frozen)
        change (World.alloc W _).grownBy w1 (Value.ownBlock (.slice (some ⟨g, 0, none⟩) (l'.length + 1) cap)) at hgrow
        have hkb := keepB_append (B := w.heap.size + 1) (Bs := w.heap.size + 1 + 1) (v' := .slice (some ⟨g', 0, none⟩) (l'.length + 1 + 1) cap') hrow hgrow (by omega) (by omega) (by omega)
        have hrow' := hown'.kept (grownBy_setCell' w1 (w.heap.size + 1) (.slice (some ⟨g', 0, none⟩) (l'.length + 1 + 1) cap')) (.inr (hv1.not_row (by decide) hown').symm)
        exact ⟨hk2.from _, hkb, ⟨_, hv2, (by rw [HS.out, List.length_append, List.length_append, runCells_snoc, runCells_snoc]; exact hrow')⟩, hB.trans hb2, Nat.le_trans hsz hkb.1⟩
  case done =>
    rintro D ys W hD hys ⟨⟨v, hv, hrow, -⟩, hB, hsz⟩ hK
    have hc := hv.cell
    gi_wp2
    refine ⟨by simp, .inl ⟨_, _, rfl, run_takeDeferred hK, ?_⟩⟩
    have el : acc ys = runsTo f 256 := by unfold acc; rw [hys, fold_runs]
    rw [el] at hrow
    exact ⟨_, results_tmp rfl _ _ _, v, rfl, ownsRow_base (ownsRow_putObj hrow _ hK rfl) (by omega), ((Below.refl _ w).alloc (Nat.le_refl _) S).trans ((hB.trans (belowK_b (w := w.alloc S) (by simp) W D _ _ (by simp at hD; simp; omega) hK rfl rfl)).mono (by omega))⟩
  case stop =>
    rintro D c pre W _ _ h _
    exact h.elim
theorem runs_any (f : Nat → Bool) (w : World) :
    Calls Try.prog 14 #[.agg #[.int .u64 (setW f 0), .int .u64 (setW f 1), .int .u64 (setW f 2), .int .u64 (setW f 3)]] w fun e W' =>
      ∃ v, e = .returned v ∧ W'.ownsRow w.heap.size 32 2 v (runsTo f 256).length (runCells (runsTo f 256)) ∧ Below w.heap.size w W' :=
  callsIn_wide.1 (runs_in 3 (by omega) f w)
end Go.Proofs.Ytcfjclcbfhajcaa
