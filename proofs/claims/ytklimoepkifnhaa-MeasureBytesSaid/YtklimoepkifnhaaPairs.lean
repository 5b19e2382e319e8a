/- byteset: Bytes, Runs, their references, awake, Combines, pairs. -/
import Derived.Test.YtklimoepkifnhaaMembers
import Derived.Test.YtklimoepkifnhaaRunMath
import Derived.WalkSmall
import Derived.Lib.BufferRead
namespace Go.Proofs.Ytklimoepkifnhaa
section
open Go.RowKit Go.Shelf
attribute [local go_sem] Oper.semAt_some
theorem Try.infoU8 : (Try.prog.info? 5).map (fun i => (i.zero, i.size, i.bytes)) = some (some (.int .u8 0), 1, 1) := by kernel_rfl
theorem ownsRow_base {W : World} {base base' : Nat} {e : TypeId} {size : Nat} {v : Value} {k : Nat} {xs : List Value} (h : W.ownsRow base e size v k xs) (hb : base' ≤ base) : W.ownsRow base' e size v k xs := by
  refine ⟨h.1, ?_⟩
  rcases h.2 with hn | ⟨g, cap, cur, hv, hbg, rest⟩
  · exact .inl hn
  · exact .inr ⟨g, cap, cur, hv, Nat.le_trans hb hbg, rest⟩
/-- what a block that is no part of the row keeps over an append and the store of the new slice into its box -/
theorem keepB_append {W w1 : World} {o : Obj} {v v' : Value} {base B Bs : Nat} {e : TypeId} {size n : Nat} {xs : List Value} (hrow : W.ownsRow base e size v n xs) (hgrow : (W.alloc o).grownBy w1 v.ownBlock)
    (hBs : Bs < base) (hl : Bs < W.heap.size) (hne : B ≠ Bs) : KeepB Bs W (w1.setCell ⟨B, 0, none⟩ v') := by
  have h1 := hgrow.size
  rw [World.size_alloc] at h1
  refine ⟨by simp; omega, ?_⟩
  rw [Below.heap_setCell _ _ _ Bs (by simpa using fun h => hne h.symm), hgrow.block Bs (by simp; omega) (fun e => by have := (hrow.lt Bs e.symm).1; omega), Below.heap_alloc _ _ Bs hl]
end
section
open Go.RowKit Go.Shelf
theorem rhas_nat (f : Nat → Bool) (k : Nat) (b : Bool) (hb : f k = b) (w : World) (hk : k < 256) :
    Calls Try.prog 17 #[.agg #[.int .u64 (setW f 0), .int .u64 (setW f 1), .int .u64 (setW f 2), .int .u64 (setW f 3)], .int .u8 (k : Int)] w fun e w' => e = .returned (.bool b) ∧ Below w.heap.size w w' := by
  subst hb
  have h := rhas_any f (k : Int) w (by omega) (by omega)
  rw [Int.toNat_natCast] at h
  exact h
end
section
open Go.RowKit Go.Shelf
theorem Try.infoRun : (Try.prog.info? 43).map (fun i => (i.zero, i.size, i.bytes)) = some (some (.agg #[.int .u8 0, .int .u8 0]), 2, 2) := by kernel_rfl
end
section
open Go.RowKit Go.Shelf
attribute [local go_sem] Oper.semAt_some
def acc (pre : List By) : List (Nat × Nat) := (pre.map (·.1)).foldl rstep []
theorem acc_snoc (pre : List By) (x : By) : acc (pre ++ [x]) = rstep (acc pre) x.1 := by
  unfold acc; rw [List.map_append, List.foldl_append]; rfl
theorem rstep_len (l : List (Nat × Nat)) (c : Nat) : (rstep l c).length ≤ l.length + 1 := by
  rcases snoc_or l with h | ⟨l', a', b', h1⟩
  · rw [h]; simp [rstep]
  · rw [h1, rstep_snoc]; split <;> simp
theorem acc_len (pre : List By) : (acc pre).length ≤ pre.length := by
  have : ∀ (l : List Nat) (a : List (Nat × Nat)), (l.foldl rstep a).length ≤ a.length + l.length := by
    intro l
    induction l with
    | nil => intro a; simp
    | cons x l ih => intro a; have := ih (rstep a x); have := rstep_len a x; simp only [List.foldl_cons, List.length_cons]; omega
  have := this (pre.map (·.1)) []
  unfold acc; simpa using this
def runsFrame (f : Nat → Bool) (n : Nat) (x : Int) : Act := { tmps := #[.agg #[.int .u64 (setW f 0), .int .u64 (setW f 1), .int .u64 (setW f 2), .int .u64 (setW f 3)], .pointer (some ⟨n, 0, none⟩), .slice none 0 0, .pointer (some ⟨n + 1, 0, none⟩), .int .u8 x, undef, .agg #[.int .u64 (setW f 0), .int .u64 (setW f 1), .int .u64 (setW f 2), .int .u64 (setW f 3)], .func (.func 49) #[] #[.pointer (some ⟨n + 1 + 1, 0, none⟩)], .int .u8 x, undef, undef, undef, undef, undef, undef, undef, undef, undef, undef, undef, undef, undef, undef, undef, undef, undef, undef, undef, undef, undef, undef, undef, undef, undef, undef, undef], defers := [] }
set_option maxHeartbeats 2000000 in
set_option maxRecDepth 100000 in
theorem runs_in (n : Nat) (hn : 3 ≤ n) (f : Nat → Bool) (w : World) :
    CallsIn Fence.wide n Try.prog 39 #[.agg #[.int .u64 (setW f 0), .int .u64 (setW f 1), .int .u64 (setW f 2), .int .u64 (setW f 3)]] w fun e W' =>
      ∃ v, e = .returned v ∧ W'.ownsRow w.heap.size 43 2 v (runsTo f 256).length (runCells (runsTo f 256)) ∧ Below w.heap.size w W' := by
  have h1 : 1 ≤ n := by omega
  obtain ⟨i0, hi, hz0, hz1, hz2⟩ := info_parts Try.infoRun
  refine callsIn_of_wp_marks Try.func39 rfl trivial ?_ rfl
  simp only [Try.ntmps39, List.size_toArray, List.length_cons, List.length_nil, Nat.reduceAdd, Nat.reduceSub, Array.replicate_succ, Array.replicate_zero, List.push_toArray, List.append_toArray, List.nil_append, List.cons_append]
  gi_wp2_with (refine ⟨trivial, ?_⟩; gi_at_call 46; refine (members_in (n - 1) f _).mono ?_; rintro e w' ⟨rfl, rfl⟩)
  obtain ⟨S, hSv⟩ : ∃ S : Obj, S = .cells #[.int .u64 (setW f 0), .int .u64 (setW f 1), .int .u64 (setW f 2), .int .u64 (setW f 3)] 35 := ⟨_, rfl⟩
  have bO := Boxed.new (w.alloc S) 40 (.slice none 0 0)
  rw [World.size_alloc] at bO
  have hB0 : Below (w.heap.size + 1) (w.alloc S) (((w.alloc S).alloc (.cells #[.slice none 0 0] 40)).alloc S) := ((Below.refl _ _).alloc (by simp) _).alloc (by simp) _
  have hS0 : SetAt f (w.heap.size + 1 + 1) (((w.alloc S).alloc (.cells #[.slice none 0 0] 40)).alloc S) := by rw [hSv]; exact SetAt.new (by simp) rfl rfl rfl rfl
  simp only [← hSv]
  refine wpIn_rangeFunc_ownG rfl h1 (gf := 49) (lb := #[.pointer (some ⟨w.heap.size + 1 + 1, 0, none⟩)]) rfl trivial (enters_of Try.func49 (by kernel_rfl) rfl)
    (members_stops (n - 1) (by omega) (w.heap.size + 1 + 1) f _ hS0) KeepB.trans (keepB_put (by simp)) (Below.refl _ _) (fun _ => rfl)
    (fun pre W => (∃ v, Boxed W (w.heap.size + 1) 40 v ∧ W.ownsRow (w.heap.size + 3) 43 2 v (acc pre).length (runCells (acc pre)) ∧ True) ∧ Below (w.heap.size + 1) (w.alloc S) W ∧ w.heap.size + 3 ≤ W.heap.size)
    (fun _ _ _ => False)
    (OwnFrom.and (Own.from (holdsRow_own (w.heap.size + 3) (w.heap.size + 1) 40 43 2 (fun pre : List By => (acc pre).length) (fun pre => runCells (acc pre)) (fun _ _ => True)) _) (OwnFrom.and (ownFrom_below (by simp) (by simp)) (Own.from (fun _ _ _ _ hs hg _ => Nat.le_trans hs hg.size) _)))
    (fun _ _ _ _ _ hs _ _ => hs)
    ⟨⟨_, bO.alloc _, World.ownsRow_nil _ _ _ _, trivial⟩, hB0, by simp⟩
    (fun x => runsFrame f w.heap.size x.1) ?assign ?body ?done ?stop
  case assign =>
    intro l x W K hK
    unfold runsFrame at hK
    gi_wp2
    exact hK
  case body =>
    rintro l pre x W ⟨⟨v, hv, hrow, -⟩, hB, hsz⟩ hlt
    clear hSv bO hB0 hS0
    have hc := hv.cell
    have hal := acc_len pre
    have hst := acc_snoc pre x
    obtain ⟨x, hx⟩ := x
    unfold runsFrame
    dsimp only at hst ⊢
    rcases snoc_or (acc pre) with h0 | ⟨l', a, b, h1⟩
    · rw [h0] at hrow
      rw [h0, rstep_nil] at hst
      obtain ⟨a, cap, rfl⟩ : ∃ a cap, v = .slice a 0 cap := by
        rcases hrow.2 with ⟨h, _⟩ | ⟨g, cap, cur, h, _⟩
        · exact ⟨_, _, h⟩
        · exact ⟨_, _, h⟩
      have HS := Lib.hid hst
      clear hst h0
      have hrow0 : W.ownsRow (w.heap.size + 3) 43 2 (.slice a 0 cap) 0 [] := hrow
      clear hrow
      gi_wp2_with (gi_at_builtin; go_loud (refine wpListIn_append_own _ rfl _ _ 40 rfl (w.heap.size + 3) 43 i0 (.agg #[.int .u8 0, .int .u8 0]) 2 2 Try.underlying40 hi hz0 hz1 hz2 rfl (by decide) _ _ _ rfl (hrow0.alloc _) ⟨W.heap.size, 0, none⟩ 1 1 [.int .u8 (x : Int), .int .u8 (x : Int)] rfl rfl (cell_two_new _ _ _ _) (by simp [Value.oneCell']) (by unfold maxLen; omega) (by omega) (by simp; omega) ?_); intro v' w1 hown' hgrow _; obtain ⟨g', cap', rfl⟩ := ownsRow_succ hown'; obtain ⟨hv1, hv2, hr2, hk2, hb2⟩ := hv.appended (by decide) (ownsRow_base hrow0 (by omega)) (by omega) (Nat.le_refl _) (ownsRow_base hown' (by omega)) hgrow; have hc1 := hv1.cell; have hf1 := hv1.frozen)
      change (World.alloc W _).grownBy w1 (Value.ownBlock (.slice a 0 cap)) at hgrow
      have hkb := keepB_append (B := w.heap.size + 1) (Bs := w.heap.size + 1 + 1) (v' := .slice (some ⟨g', 0, none⟩) (0 + 1) cap') hrow0 hgrow (by omega) (by omega) (by omega)
      have hrow' := hown'.kept (grownBy_setCell' w1 (w.heap.size + 1) (.slice (some ⟨g', 0, none⟩) (0 + 1) cap')) (.inr (hv1.not_row (by decide) hown').symm)
      exact ⟨hk2.from _, hkb, ⟨_, hv2, (by rw [HS.out]; exact hrow'), trivial⟩, hB.trans hb2, Nat.le_trans hsz hkb.1⟩
    · rw [h1, rstep_snoc] at hst
      rw [h1, List.length_append, List.length_singleton, runCells_snoc] at hrow
      rw [h1, List.length_append] at hal
      obtain ⟨g, cap, rfl⟩ := ownsRow_succ hrow
      have hcell := hrow.cells rfl (l'.length * 2 + 1) (.int .u8 (b : Int)) (by rw [List.getElem?_append_right (by rw [runCells_len]; omega), runCells_len, show l'.length * 2 + 1 - l'.length * 2 = 1 from by omega]; rfl)
      rw [Addr.add_lit, Nat.zero_add] at hcell
      have hal' : l'.length + 1 ≤ pre.length := hal
      clear h1 hal
      have hfz := hrow.frozenAt (l'.length * 2 + 1)
      by_cases hbx : b = (x + 255) % 256
      · rw [if_pos hbx] at hst
        have HS := Lib.hid hst
        have he : ((b : Int) == ((x : Int) - 1) % 256) = true := by rw [beq_iff_eq]; omega
        clear hst hbx
        gi_wp2
        obtain ⟨hrow1, hg1⟩ := hrow.stored (l'.length * 2 + 1) (.int .u8 (x : Int))
        have hgl := (hrow.lt g rfl).1
        have hset : (runCells l' ++ [Value.int .u8 (a : Int), .int .u8 (b : Int)]).set (l'.length * 2 + 1) (.int .u8 (x : Int)) = runCells (l' ++ [(a, x)]) := by
          rw [runCells_snoc, List.set_append_right _ _ (by rw [runCells_len]; omega), runCells_len, show l'.length * 2 + 1 - l'.length * 2 = 1 from by omega]; rfl
        rw [hset] at hrow1
        refine ⟨(KeepsOthers.setCell _ _ _).from _, ⟨by simp, ?_⟩, ⟨_, hv.kept hg1 (by intro e; injection e; omega), (by rw [HS.out, List.length_append]; exact hrow1)⟩, hB.setCell (by show w.heap.size + 1 ≤ g; omega) _, by simpa using hsz⟩
        exact Below.heap_setCell _ _ _ _ (by show w.heap.size + 1 + 1 ≠ g; omega)
      · rw [if_neg hbx] at hst
        have HS := Lib.hid hst
        have he : ((b : Int) == ((x : Int) - 1) % 256) = false := by rw [beq_eq_false_iff_ne]; omega
        clear hst hbx
        gi_wp2_with (gi_at_builtin; go_loud (refine wpListIn_append_own _ rfl _ _ 40 rfl (w.heap.size + 3) 43 i0 (.agg #[.int .u8 0, .int .u8 0]) 2 2 Try.underlying40 hi hz0 hz1 hz2 rfl (by decide) _ _ _ rfl (hrow.alloc _) ⟨W.heap.size, 0, none⟩ 1 1 [.int .u8 (x : Int), .int .u8 (x : Int)] rfl rfl (cell_two_new _ _ _ _) (by simp [Value.oneCell']) (by unfold maxLen; omega) (by omega) (by simp; omega) ?_); intro v' w1 hown' hgrow _; obtain ⟨g', cap', rfl⟩ := ownsRow_succ hown'; obtain ⟨hv1, hv2, hr2, hk2, hb2⟩ := hv.appended (by decide) (ownsRow_base hrow (by omega)) (by omega) (Nat.le_refl _) (ownsRow_base hown' (by omega)) hgrow; have hc1 := hv1.cell; have hf1 := hv1.frozen)
        change (World.alloc W _).grownBy w1 (Value.ownBlock (.slice (some ⟨g, 0, none⟩) (l'.length + 1) cap)) at hgrow
        have hkb := keepB_append (B := w.heap.size + 1) (Bs := w.heap.size + 1 + 1) (v' := .slice (some ⟨g', 0, none⟩) (l'.length + 1 + 1) cap') hrow hgrow (by omega) (by omega) (by omega)
        have hrow' := hown'.kept (grownBy_setCell' w1 (w.heap.size + 1) (.slice (some ⟨g', 0, none⟩) (l'.length + 1 + 1) cap')) (.inr (hv1.not_row (by decide) hown').symm)
        exact ⟨hk2.from _, hkb, ⟨_, hv2, (by rw [HS.out, List.length_append, List.length_append, runCells_snoc, runCells_snoc]; exact hrow')⟩, hB.trans hb2, Nat.le_trans hsz hkb.1⟩
  case done =>
    rintro D ys W hD hys ⟨⟨v, hv, hrow, -⟩, hB, hsz⟩ hK
    have hc := hv.cell
    gi_wp2
    refine ⟨by simp, .inl ⟨_, _, rfl, run_takeDeferred hK, ?_⟩⟩
    have el : acc ys = runsTo f 256 := by unfold acc; rw [hys, fold_runs]
    rw [el] at hrow
    exact ⟨_, results_tmp rfl _ _ _, v, rfl, ownsRow_base (ownsRow_putObj hrow _ hK rfl) (by omega), ((Below.refl _ w).alloc (Nat.le_refl _) S).trans ((hB.trans (belowK_b (w := w.alloc S) (by simp) W D _ _ (by simp at hD; simp; omega) hK rfl rfl)).mono (by omega))⟩
  case stop =>
    rintro D c pre W _ _ h _
    exact h.elim
theorem runs_any (f : Nat → Bool) (w : World) :
    Calls Try.prog 39 #[.agg #[.int .u64 (setW f 0), .int .u64 (setW f 1), .int .u64 (setW f 2), .int .u64 (setW f 3)]] w fun e W' =>
      ∃ v, e = .returned v ∧ W'.ownsRow w.heap.size 43 2 v (runsTo f 256).length (runCells (runsTo f 256)) ∧ Below w.heap.size w W' :=
  callsIn_wide.1 (runs_in 3 (by omega) f w)
end
section
open Go.RowKit Go.Shelf
def F4 : Nat → Bool := lset [98, 97, 99, 120]
theorem F4_cnt : cnt F4 256 = 4 := by decide +kernel
theorem F4_runs : runsTo F4 256 = [(97, 99), (120, 120)] := by decide +kernel
theorem F4_memb : memb F4 256 = [97, 98, 99, 120] := by decide +kernel
theorem full_cnt : cnt (fun _ => true) 256 = 256 := by decide +kernel
theorem has_is (f : Nat → Bool) (c : Int) (b : Bool) (w : World) (h0 : 0 ≤ c) (h1 : c ≤ 255) (hb : f c.toNat = b) :
    Calls Try.prog 50 #[.agg #[.int .u64 (setW f 0), .int .u64 (setW f 1), .int .u64 (setW f 2), .int .u64 (setW f 3)], .int .u8 c] w fun e w' => e = .returned (.bool b) ∧ Below w.heap.size w w' := by
  subst hb; exact has_any f c w h0 h1
theorem memb_lt (f : Nat → Bool) (k : Nat) (hk : k ≤ 256) : ∀ x, x ∈ memb f k → x < 256 := by
  intro x hx; unfold memb at hx; have := List.mem_range.1 (List.mem_filter.1 hx).1; omega
theorem runs_four (w : World) : Calls Try.prog 39 #[.agg #[.int .u64 (setW F4 0), .int .u64 (setW F4 1), .int .u64 (setW F4 2), .int .u64 (setW F4 3)]] w fun e w' =>
    ∃ g cap, e = .returned (.slice (some ⟨g, 0, none⟩) 2 cap) ∧ (w'.cell? ⟨g, 0, none⟩ = some (.int .u8 97) ∧ w'.cell? ⟨g, 1, none⟩ = some (.int .u8 99) ∧ w'.cell? ⟨g, 2, none⟩ = some (.int .u8 120) ∧ w'.cell? ⟨g, 3, none⟩ = some (.int .u8 120)) ∧ Below w.heap.size w w' := by
  refine (runs_any F4 w).mono ?_
  rintro e w' ⟨v, rfl, hr, hb⟩
  rw [F4_runs] at hr
  have hr : w'.ownsRow w.heap.size 43 2 v (1 + 1) [.int .u8 97, .int .u8 99, .int .u8 120, .int .u8 120] := hr
  obtain ⟨g, cap, rfl⟩ := ownsRow_succ hr
  exact ⟨g, cap, rfl, ⟨hr.cellAt 0 (by omega), hr.cellAt 1 (by omega), hr.cellAt 2 (by omega), hr.cellAt 3 (by omega)⟩, hb⟩
/-- a call of something that only makes new memory keeps what block B holds -/
theorem four_kept {B : Nat} {x y z u : Value} {w w' : World} (hb : Below w.heap.size w w')
    (h : w.cell? ⟨B, 0, none⟩ = some x ∧ w.cell? ⟨B, 1, none⟩ = some y ∧ w.cell? ⟨B, 2, none⟩ = some z ∧ w.cell? ⟨B, 3, none⟩ = some u) :
    w'.cell? ⟨B, 0, none⟩ = some x ∧ w'.cell? ⟨B, 1, none⟩ = some y ∧ w'.cell? ⟨B, 2, none⟩ = some z ∧ w'.cell? ⟨B, 3, none⟩ = some u := by
  have hB : B < w.heap.size := block_lt_of_cell h.1
  exact ⟨(hb.cell (p := ⟨B, 0, none⟩) hB).trans h.1, (hb.cell (p := ⟨B, 1, none⟩) hB).trans h.2.1, (hb.cell (p := ⟨B, 2, none⟩) hB).trans h.2.2.1, (hb.cell (p := ⟨B, 3, none⟩) hB).trans h.2.2.2⟩
end
section
open Go.RowKit Go.Shelf
theorem rhas_is (f : Nat → Bool) (k : Nat) (b : Bool) (hb : f k = b) (hk : k < 256) (w : World) :
    Calls Try.prog 17 #[.agg #[.int .u64 (setW f 0), .int .u64 (setW f 1), .int .u64 (setW f 2), .int .u64 (setW f 3)], .int .u8 (k : Int)] w fun e w' => e = .returned (.bool b) ∧ Below w.heap.size w w' :=
  rhas_nat f k b hb w hk
theorem SetAt.kept {f : Nat → Bool} {B : Nat} {w w' : World} (h : SetAt f B w) (hb : Below w.heap.size w w') : SetAt f B w' := h.below hb h.lt
theorem SetAt.conj {f : Nat → Bool} {B : Nat} {w : World} (h : SetAt f B w) : w.cell? ⟨B, 0, none⟩ = some (.int .u64 (setW f 0)) ∧ w.cell? ⟨B, 1, none⟩ = some (.int .u64 (setW f 1)) ∧ w.cell? ⟨B, 2, none⟩ = some (.int .u64 (setW f 2)) ∧ w.cell? ⟨B, 3, none⟩ = some (.int .u64 (setW f 3)) := h.four.1
/-- the five sets of the law lie in their blocks -/
def CombAt (f g : Nat → Bool) (A B U M N : Nat) (w : World) : Prop := SetAt f A w ∧ SetAt g B w ∧ SetAt (fun i => f i || g i) U w ∧ SetAt (fun i => f i && g i) M w ∧ SetAt (fun i => !f i) N w
theorem CombAt.kept {f g : Nat → Bool} {A B U M N : Nat} {w w' : World} (h : CombAt f g A B U M N w) (hb : Below w.heap.size w w') : CombAt f g A B U M N w' :=
  ⟨h.1.kept hb, h.2.1.kept hb, h.2.2.1.kept hb, h.2.2.2.1.kept hb, h.2.2.2.2.kept hb⟩
end
section
open Go.RowKit Go.Shelf
def PairsAt (w : World) (v : Value) (rs : List (Nat × Nat)) : Prop := ∃ a cap, v = .slice a rs.length cap ∧ (rs = [] ∨ ∃ b, a = some ⟨b, 0, none⟩ ∧ ∀ i x, rs[i]? = some x → w.cell? ⟨b, i * 2, none⟩ = some (.int .u8 (x.1 : Int)) ∧ w.cell? ⟨b, i * 2 + 1, none⟩ = some (.int .u8 (x.2 : Int)))
theorem runCells_get : ∀ (rs : List (Nat × Nat)) (i : Nat) (x : Nat × Nat), rs[i]? = some x → (runCells rs)[i * 2]? = some (.int .u8 (x.1 : Int)) ∧ (runCells rs)[i * 2 + 1]? = some (.int .u8 (x.2 : Int))
  | [], _, _, h => by cases h
  | y :: r, 0, x, h => by cases h; exact ⟨rfl, rfl⟩
  | y :: r, i + 1, x, h => by
    have := runCells_get r i x h
    rw [show (i + 1) * 2 = i * 2 + 1 + 1 from by omega]
    exact this
theorem PairsAt.of_owns {w : World} {base : Nat} {t : TypeId} {v : Value} {rs : List (Nat × Nat)} (h : w.ownsRow base t 2 v rs.length (runCells rs)) : PairsAt w v rs := by
  have h' := h
  obtain ⟨-, ⟨rfl, h0⟩ | ⟨g, cap, cur, rfl, -⟩⟩ := h'
  · exact ⟨none, 0, by rw [h0], .inl (List.length_eq_zero_iff.1 h0)⟩
  · refine ⟨_, cap, rfl, .inr ⟨g, rfl, fun i x hx => ?_⟩⟩
    obtain ⟨h1, h2⟩ := runCells_get rs i x hx
    have e1 := h.cells rfl _ _ h1
    have e2 := h.cells rfl _ _ h2
    rw [Addr.add_lit, Nat.zero_add] at e1 e2
    exact ⟨e1, e2⟩
theorem PairsAt.below {w w' : World} {v : Value} {rs : List (Nat × Nat)} (h : PairsAt w v rs) (hb : Below w.heap.size w w') : PairsAt w' v rs := by
  obtain ⟨a, cap, rfl, h⟩ := h
  refine ⟨a, cap, rfl, h.imp id ?_⟩
  rintro ⟨b, rfl, hc⟩
  refine ⟨b, rfl, fun i x hi => ?_⟩
  obtain ⟨h1, h2⟩ := hc i x hi
  exact ⟨(hb.cell (p := ⟨b, i * 2, none⟩) (block_lt_of_cell h1 : b < _)).trans h1, (hb.cell (p := ⟨b, i * 2 + 1, none⟩) (block_lt_of_cell h2 : b < _)).trans h2⟩
theorem PairsAt.drew {w : World} {v : Value} {rs : List (Nat × Nat)} (h : PairsAt w v rs) : PairsAt w.drew v rs := h
theorem runs_row (f : Nat → Bool) (w : World) : Calls Try.prog 39 #[.agg #[.int .u64 (setW f 0), .int .u64 (setW f 1), .int .u64 (setW f 2), .int .u64 (setW f 3)]] w fun e w' => ∃ a cap, e = .returned (.slice a (runsTo f 256).length cap) ∧ PairsAt w' (.slice a (runsTo f 256).length cap) (runsTo f 256) ∧ Below w.heap.size w w' := by
  refine (runs_any f w).mono ?_
  rintro e w' ⟨v, rfl, hr, hb⟩
  have h := PairsAt.of_owns hr
  have h' := h
  obtain ⟨a, cap, rfl, -⟩ := h'
  exact ⟨a, cap, rfl, h, hb⟩
end
end Go.Proofs.Ytklimoepkifnhaa
