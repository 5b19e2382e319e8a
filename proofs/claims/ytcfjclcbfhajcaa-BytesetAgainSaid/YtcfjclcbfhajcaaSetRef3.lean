/- The contracts of the reference's List and Range. -/
import Derived.Test.YtcfjclcbfhajcaaSetRef2
import Derived.Maps.AppendAt
namespace Go.Proofs.Ytcfjclcbfhajcaa
open Go.RowKit
/-- block B holds the bools f -/
def BAt (f : Nat → Bool) (B : Nat) (w : World) : Prop := ∀ j, j < 256 → w.cell? ⟨B, j, none⟩ = some (.bool (f j)) ∧ w.frozen? ⟨B, j, none⟩ = false
theorem BAt.put {f : Nat → Bool} {B k : Nat} {w : World} (h : BAt f B w) : BAt (ins f k) B (w.setCell ⟨B, k, none⟩ (.bool true)) := fun j hj => by
  refine ⟨?_, by rw [World.frozen?_setCell]; exact (h j hj).2⟩
  unfold ins
  by_cases e : j = k
  · subst e; rw [World.cell?_setCell_same' _ _ _ (by rw [(h _ hj).1]; rfl)]; simp
  · rw [World.cell?_setCell_other (h := by intro hh; injection hh with _ h2; exact e h2.symm), (h j hj).1]
    have : (j == k) = false := by rw [beq_eq_false_iff_ne]; exact e
    rw [this]; simp
/-- block B holds four values, and may be written -/
def Four (B : Nat) (w : World) (x y z u : Value) : Prop :=
  (w.cell? ⟨B, 0, none⟩ = some x ∧ w.cell? ⟨B, 1, none⟩ = some y ∧ w.cell? ⟨B, 2, none⟩ = some z ∧ w.cell? ⟨B, 3, none⟩ = some u) ∧ ∀ o, w.frozen? ⟨B, o, none⟩ = false
theorem Four.new (w : World) (x y z u : Value) (t : TypeId) : Four w.heap.size (w.alloc (.cells #[x, y, z, u] t)) x y z u := by
  unfold Four; refine ⟨⟨?_, ?_, ?_, ?_⟩, fun o => ?_⟩ <;> simp
theorem Four.below {B n : Nat} {w w' : World} {x y z u : Value} (h : Four B w x y z u) (hb : Below n w w') (hB : B < n) : Four B w' x y z u := by
  obtain ⟨⟨h0, h1, h2, h3⟩, hf⟩ := h
  exact ⟨⟨(hb.cell (p := ⟨B, 0, none⟩) hB).trans h0, (hb.cell (p := ⟨B, 1, none⟩) hB).trans h1, (hb.cell (p := ⟨B, 2, none⟩) hB).trans h2, (hb.cell (p := ⟨B, 3, none⟩) hB).trans h3⟩, fun o => (hb.frozen (p := ⟨B, o, none⟩) hB).trans (hf o)⟩
def falses : Array Value := Array.replicate 256 (.bool false)
theorem mk256 (w : World) : (Instr.makeSlice 48 (.int .i64 256) (.int .i64 256)).run Try.prog w = .ok (.slice (some ⟨w.heap.size, 0, none⟩) 256 256) (w.alloc (.cells falses 4)) := by kernel_rfl
set_option maxHeartbeats 800000 in
theorem rlist_any (l : List Int) (v : Value) (w : World) (hv : RowAt w v (l.map (Value.int .u8))) (hl : ∀ x, x ∈ l → 0 ≤ x ∧ x ≤ 255) (hn : l.length ≤ 9223372036854775807) :
    Calls Try.prog 17 #[v] w
      fun e w' => e = .returned (.agg #[.int .u64 (setW (lset l) 0), .int .u64 (setW (lset l) 1), .int .u64 (setW (lset l) 2), .int .u64 (setW (lset l) 3)]) ∧ Below w.heap.size w w' := by
  obtain ⟨a, cap, rfl, hcs⟩ := hv
  rw [List.length_map]
  have HC := Lib.hid hcs
  have HL := Lib.hid hl
  clear hcs hl
  have hmk := mk256
  go_enter Try.func17, Try.ntmps17
  go_wp2
  go_loopw [4] (fun c wr => ∃ k : Nat, k ≤ l.length ∧ c = .int .i64 k ∧ BAt (lset (l.take k)) (w.heap.size + 1) wr ∧ Below (w.heap.size + 1) (w.alloc (.cells #[.int .u64 0, .int .u64 0, .int .u64 0, .int .u64 0] 24)) wr ∧ w.heap.size + 1 < wr.heap.size) (fun c _ => (l.length - (intOf c).toNat))
  case atStart =>
    have e : lset (l.take 0) = fun _ => false := by funext i; simp [lset]
    refine ⟨0, Nat.zero_le _, rfl, ?_, (Below.refl _ _).alloc (by simp) _, by simp⟩
    rw [e]; intro j hj
    have hf : falses[j]? = some (.bool false) := by unfold falses; simp [hj]
    rw [World.cell?_alloc_at _ _ _ _ (by simp), hf, World.frozen?_alloc_at _ _ _ _ (by simp)]; exact ⟨rfl, rfl⟩
  case round =>
    obtain ⟨k, hk, rfl, hs, hb, hz⟩ := hrel
    by_cases hlt : k < l.length
    · obtain ⟨x, hx⟩ : ∃ x, l[k]? = some x := ⟨l[k], by simp [hlt]⟩
      obtain ⟨hx0, hx1⟩ := HL.out x (List.mem_of_getElem? hx)
      obtain ⟨n, rfl⟩ := Int.eq_ofNat_of_zero_le hx0
      obtain ⟨b, off, rfl, hcell⟩ := HC.out.resolve_left (by intro h; rw [List.map_eq_nil_iff] at h; rw [h] at hlt; simp at hlt)
      have hc0 := hcell k (.int .u8 n) (by rw [List.getElem?_map, hx]; rfl)
      have hblk := block_lt_of_cell hc0
      have hc1 : wr.cell? ⟨b, off + k, none⟩ = some (.int .u8 n) := by
        rw [(bcell hb).1 b _ (by simpa using Nat.lt_succ_of_lt hblk), World.cell?_alloc_lt (h := hblk)]; exact hc0
      have hc := (hs n (by omega)).1
      have hf := (hs n (by omega)).2
      have ht := Lib.hid (take_snoc' l k _ hx)
      clear hc0 hcell hx
      go_wp2
      go_roundw
      case rel =>
        have hs' := hs.put (k := n)
        exact ⟨k + 1, by omega, by go_num, by rw [ht.out, lset_snoc]; exact hs', hb.setCell (Nat.le_refl _) _, by simpa using hz⟩
      case measure => simp [intOf]; omega
    · have e : l.take k = l := List.take_of_length_le (by omega)
      rw [e] at hs
      have h4 := (Four.new w (.int .u64 0) (.int .u64 0) (.int .u64 0) (.int .u64 0) 24).below hb (Nat.lt_succ_self _)
      have hr : RowAt wr (.slice (some ⟨w.heap.size + 1, 0, none⟩) 256 256) ((List.range 256).map fun i => .bool (lset l i)) :=
        ⟨_, 256, by rw [List.length_map, List.length_range], .inr ⟨_, _, rfl, fun i c hc => by
          rw [List.getElem?_map] at hc
          by_cases hi : i < 256
          · rw [List.getElem?_range hi] at hc; cases hc; simpa using (hs i hi).1
          · rw [List.getElem?_eq_none (by simp; omega)] at hc; cases hc⟩⟩
      have h := Lib.hid (rof_row (lset l) _ wr hr)
      clear e HC HL hr hs
      go_wp2_with fail
      refine h.out.mono ?_
      rintro e w1 ⟨rfl, hb1⟩
      obtain ⟨⟨d0, d1, d2, d3⟩, hfr⟩ := h4.below hb1 (by omega)
      clear h h4
      go_wp2
      refine bodyPost_ret (v := .agg #[.int .u64 (setW (lset l) 0), .int .u64 (setW (lset l) 1), .int .u64 (setW (lset l) 2), .int .u64 (setW (lset l) 3)]) (by simp [results, Try.results17, go_sem, d0, d1, d2, d3]) rfl ⟨rfl, ?_⟩
      exact (((((((Below.refl _ w).alloc (Nat.le_refl _) _).trans (hb.mono (by omega))).trans (hb1.mono (by omega))).setCell (Nat.le_refl _) _).setCell (Nat.le_refl _) _).setCell (Nat.le_refl _) _).setCell (Nat.le_refl _) _
theorem Try.infoBool : (Try.prog.info? 4).map (fun i => (i.zero, i.size, i.bytes)) = some (some (.bool false), 1, 1) := by kernel_rfl
def bools (f : Nat → Bool) (k : Nat) : List Value := (List.range k).map fun i => .bool (f i)
theorem bools_len (f : Nat → Bool) (k : Nat) : (bools f k).length = k := by unfold bools; simp
theorem bools_succ (f : Nat → Bool) (k : Nat) : bools f (k + 1) = bools f k ++ [.bool (f k)] := by
  unfold bools; rw [List.range_succ, List.map_append]; rfl
theorem RowAt.of_owns {w : World} {base : Nat} {t : TypeId} {v : Value} {n : Nat} {cs : List Value} (h : w.ownsRow base t 1 v n cs) (hn : cs.length = n) : RowAt w v cs := by
  subst hn
  have h' := h
  obtain ⟨-, ⟨rfl, h0⟩ | ⟨g, cap, cur, rfl, -⟩⟩ := h'
  · exact ⟨none, 0, by rw [h0], .inl (List.length_eq_zero_iff.1 h0)⟩
  · refine ⟨_, cap, rfl, .inr ⟨g, 0, rfl, fun i c hc => ?_⟩⟩
    have := h.cells rfl i c hc
    rw [Addr.add_lit] at this; exact this
def rin (lo hi : Int) : Nat → Bool := fun i => decide (lo ≤ (i : Int)) && decide ((i : Int) ≤ hi)
theorem rin_false {lo hi : Int} {k : Nat} (h : ¬ (lo ≤ (k : Int) ∧ (k : Int) ≤ hi)) : rin lo hi k = false := by
  unfold rin; rw [Bool.and_eq_false_iff]; simp; omega
theorem rin_true {lo hi : Int} {k : Nat} (h : lo ≤ (k : Int) ∧ (k : Int) ≤ hi) : rin lo hi k = true := by
  unfold rin; simp; omega
set_option maxHeartbeats 800000 in
set_option maxRecDepth 100000 in
theorem rrange_any (lo hi : Int) (w : World) :
    Calls Try.prog 19 #[.int .i64 lo, .int .i64 hi] w
      fun e w' => e = .returned (.agg #[.int .u64 (setW (rin lo hi) 0), .int .u64 (setW (rin lo hi) 1), .int .u64 (setW (rin lo hi) 2), .int .u64 (setW (rin lo hi) 3)]) ∧ Below w.heap.size w w' := by
  obtain ⟨i0, hi0, hz0, hz1, hz2⟩ := info_parts Try.infoBool
  go_enter Try.func19, Try.ntmps19
  go_wp2
  go_loopw [5, 6] (fun v c wr => ∃ k : Nat, k ≤ 256 ∧ c = .int .i64 k ∧ wr.ownsRow (w.heap.size + 1) 4 1 v k (bools (rin lo hi) k) ∧ Below (w.heap.size + 1) (w.alloc (.cells #[.int .u64 0, .int .u64 0, .int .u64 0, .int .u64 0] 24)) wr ∧ w.heap.size < wr.heap.size) (fun _ c _ => (256 - (intOf c).toNat))
  case atStart =>
    exact ⟨0, Nat.zero_le _, rfl, World.ownsRow_nil _ _ _ _, Below.refl _ _, by simp⟩
  case round =>
    obtain ⟨k, hk, rfl, hs, hb, hz⟩ := hrel
    by_cases hlt : k < 256
    · by_cases h1 : lo ≤ (k : Int)
      · by_cases h2 : (k : Int) ≤ hi
        · have hv : (Value.bool true) = .bool (rin lo hi k) := by rw [rin_true ⟨h1, h2⟩]
          have HV := Lib.hid hv
          clear hv
          go_wp2_with (at_builtin; refine wpList_append_own _ rfl _ _ 48 rfl (w.heap.size + 1) 4 i0 (.bool false) 1 1 Try.underlying48 hi0 hz0 hz1 hz2 rfl (by decide) _ _ _ rfl (hs.alloc _) ⟨wr.heap.size, 0, none⟩ 1 1 [.bool true] rfl rfl (cell_one_new _ _ _) (by simp [Value.oneCell']) (by unfold maxLen; omega) (by omega) (by simp; omega) ?_; intro v' w1 hown' hgrow _)
          have hv := HV.out
          have hsz := hgrow.size
          rw [World.size_alloc] at hsz
          rw [hv, ← bools_succ] at hown'
          have hb' := (hb.alloc (by omega) (.cells #[_] 4)).grown hgrow (by simp; omega) (fun k e => (hs.lt k e).1)
          exact ⟨⟨k + 1, by omega, by go_num, hown', hb', by omega⟩, by simp [intOf]; omega⟩
        · have hv : (Value.bool false) = .bool (rin lo hi k) := by rw [rin_false fun h => h2 h.2]
          have HV := Lib.hid hv
          clear hv
          go_wp2_with (at_builtin; refine wpList_append_own _ rfl _ _ 48 rfl (w.heap.size + 1) 4 i0 (.bool false) 1 1 Try.underlying48 hi0 hz0 hz1 hz2 rfl (by decide) _ _ _ rfl (hs.alloc _) ⟨wr.heap.size, 0, none⟩ 1 1 [.bool false] rfl rfl (cell_one_new _ _ _) (by simp [Value.oneCell']) (by unfold maxLen; omega) (by omega) (by simp; omega) ?_; intro v' w1 hown' hgrow _)
          have hv := HV.out
          have hsz := hgrow.size
          rw [World.size_alloc] at hsz
          rw [hv, ← bools_succ] at hown'
          have hb' := (hb.alloc (by omega) (.cells #[_] 4)).grown hgrow (by simp; omega) (fun k e => (hs.lt k e).1)
          exact ⟨⟨k + 1, by omega, by go_num, hown', hb', by omega⟩, by simp [intOf]; omega⟩
      · have hv : (Value.bool false) = .bool (rin lo hi k) := by rw [rin_false fun h => h1 h.1]
        have HV := Lib.hid hv
        clear hv
        go_wp2_with (at_builtin; refine wpList_append_own _ rfl _ _ 48 rfl (w.heap.size + 1) 4 i0 (.bool false) 1 1 Try.underlying48 hi0 hz0 hz1 hz2 rfl (by decide) _ _ _ rfl (hs.alloc _) ⟨wr.heap.size, 0, none⟩ 1 1 [.bool false] rfl rfl (cell_one_new _ _ _) (by simp [Value.oneCell']) (by unfold maxLen; omega) (by omega) (by simp; omega) ?_; intro v' w1 hown' hgrow _)
        have hv := HV.out
        have hsz := hgrow.size
        rw [World.size_alloc] at hsz
        rw [hv, ← bools_succ] at hown'
        have hb' := (hb.alloc (by omega) (.cells #[_] 4)).grown hgrow (by simp; omega) (fun k e => (hs.lt k e).1)
        exact ⟨⟨k + 1, by omega, by go_num, hown', hb', by omega⟩, by simp [intOf]; omega⟩
    · obtain rfl : k = 256 := by omega
      have h4 := (Four.new w (.int .u64 0) (.int .u64 0) (.int .u64 0) (.int .u64 0) 24).below hb (Nat.lt_succ_self _)
      have hr : RowAt wr u5 (bools (rin lo hi) 256) := RowAt.of_owns hs (bools_len _ _)
      have h := Lib.hid (rof_row (rin lo hi) _ wr hr)
      clear hr
      go_wp2_with fail
      refine h.out.mono ?_
      rintro e w1 ⟨rfl, hb1⟩
      obtain ⟨⟨d0, d1, d2, d3⟩, hfr⟩ := h4.below hb1 (by omega)
      clear h h4 hs
      go_wp2
      refine bodyPost_ret (v := .agg #[.int .u64 (setW (rin lo hi) 0), .int .u64 (setW (rin lo hi) 1), .int .u64 (setW (rin lo hi) 2), .int .u64 (setW (rin lo hi) 3)]) (by simp [results, Try.results19, go_sem, d0, d1, d2, d3]) rfl ⟨rfl, ?_⟩
      exact (((((((Below.refl _ w).alloc (Nat.le_refl _) _).trans (hb.mono (by omega))).trans (hb1.mono (by omega))).setCell (Nat.le_refl _) _).setCell (Nat.le_refl _) _).setCell (Nat.le_refl _) _).setCell (Nat.le_refl _) _
end Go.Proofs.Ytcfjclcbfhajcaa
