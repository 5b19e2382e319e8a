/- The fixed results that every statement on sets checks first: they are as documented. -/
import Derived.Test.YtcfjclcbfhajcaaRuns
import Derived.Lib.BufferRead
namespace Go.Proofs.Ytcfjclcbfhajcaa
open Go.RowKit Go.Shelf
def F4 : Nat → Bool := lset [98, 97, 99, 120]
theorem F4_cnt : cnt F4 256 = 4 := by decide +kernel
theorem F4_runs : runsTo F4 256 = [(97, 99), (120, 120)] := by decide +kernel
theorem F4_memb : memb F4 256 = [97, 98, 99, 120] := by decide +kernel
theorem full_cnt : cnt (fun _ => true) 256 = 256 := by decide +kernel
theorem count_is (f : Nat → Bool) (n : Nat) (k : Int) (hn : cnt f 256 = n) (hk : (n : Int) = k) (w : World) :
    Calls Try.prog 13 #[.agg #[.int .u64 (setW f 0), .int .u64 (setW f 1), .int .u64 (setW f 2), .int .u64 (setW f 3)]] w fun e w' => e = .returned (.int .i64 k) ∧ Below w.heap.size w w' := by
  subst hn hk; exact count_any f w
theorem has_is (f : Nat → Bool) (c : Int) (b : Bool) (w : World) (h0 : 0 ≤ c) (h1 : c ≤ 255) (hb : f c.toNat = b) :
    Calls Try.prog 9 #[.agg #[.int .u64 (setW f 0), .int .u64 (setW f 1), .int .u64 (setW f 2), .int .u64 (setW f 3)], .int .u8 c] w fun e w' => e = .returned (.bool b) ∧ Below w.heap.size w w' := by
  subst hb; exact has_any f c w h0 h1
/-- the string of the bytes l -/
def strOf (l : List Nat) : ByteArray := ⟨(l.map UInt8.ofNat).toArray⟩
theorem conv_row {w : World} {v : Value} {l : List Nat} (h : RowAt w v (u8s l)) (hl : ∀ x, x ∈ l → x < 256) : (convert 27 9 v).run Try.prog w = .ok (.string (strOf l)) w := by
  obtain ⟨a, cap, rfl, h⟩ := h
  rcases h with h0 | ⟨b, off, rfl, hc⟩
  · have : l = [] := List.map_eq_nil_iff.1 h0
    subst this
    cases a with
    | none => exact Lib.run_convert_nil_bytes w _ _ _ cap Try.underlying27 Try.underlying5 Try.underlying9
    | some a => exact run_convert_bytes_back w _ _ _ a cap [] Try.underlying27 Try.underlying5 Try.underlying9 (fun j hj => absurd hj (by simp))
  · have hlen : (u8s l).length = (l.map UInt8.ofNat).length := by unfold u8s; simp
    rw [hlen]
    refine run_convert_bytes_back w _ _ _ ⟨b, off, none⟩ cap (l.map UInt8.ofNat) Try.underlying27 Try.underlying5 Try.underlying9 (fun j hj => ?_)
    rw [Addr.add_lit]
    have hj' : j < l.length := by simpa using hj
    have := hc j (.int .u8 ((l[j] : Nat) : Int)) (by unfold u8s; rw [List.getElem?_map, List.getElem?_eq_getElem hj']; rfl)
    rw [this]
    congr 2
    rw [List.getElem_map]
    have := hl _ (List.getElem_mem hj')
    simp; omega
theorem memb_lt (f : Nat → Bool) (k : Nat) (hk : k ≤ 256) : ∀ x, x ∈ memb f k → x < 256 := by
  intro x hx; unfold memb at hx; have := List.mem_range.1 (List.mem_filter.1 hx).1; omega
theorem bytes_four (w : World) : Calls Try.prog 11 #[.agg #[.int .u64 (setW F4 0), .int .u64 (setW F4 1), .int .u64 (setW F4 2), .int .u64 (setW F4 3)]] w fun e w' =>
    ∃ v, e = .returned v ∧ (convert 27 9 v).run Try.prog w' = .ok (.string ⟨#[97, 98, 99, 120]⟩) w' ∧ Below w.heap.size w w' := by
  refine (bytes_any F4 w).mono ?_
  rintro e w' ⟨v, rfl, hr, hb⟩
  refine ⟨v, rfl, ?_, hb⟩
  have := conv_row (RowAt.of_owns hr (by unfold u8s; rw [List.length_map])) (memb_lt F4 256 (Nat.le_refl _))
  rw [F4_memb] at this
  exact this
theorem runs_four (w : World) : Calls Try.prog 14 #[.agg #[.int .u64 (setW F4 0), .int .u64 (setW F4 1), .int .u64 (setW F4 2), .int .u64 (setW F4 3)]] w fun e w' =>
    ∃ g cap, e = .returned (.slice (some ⟨g, 0, none⟩) 2 cap) ∧ (w'.cell? ⟨g, 0, none⟩ = some (.int .u8 97) ∧ w'.cell? ⟨g, 1, none⟩ = some (.int .u8 99) ∧ w'.cell? ⟨g, 2, none⟩ = some (.int .u8 120) ∧ w'.cell? ⟨g, 3, none⟩ = some (.int .u8 120)) ∧ Below w.heap.size w w' := by
  refine (runs_any F4 w).mono ?_
  rintro e w' ⟨v, rfl, hr, hb⟩
  rw [F4_runs] at hr
  have hr : w'.ownsRow w.heap.size 32 2 v (1 + 1) [.int .u8 97, .int .u8 99, .int .u8 120, .int .u8 120] := hr
  obtain ⟨g, cap, rfl⟩ := ownsRow_succ hr
  exact ⟨g, cap, rfl, ⟨hr.cellAt 0 (by omega), hr.cellAt 1 (by omega), hr.cellAt 2 (by omega), hr.cellAt 3 (by omega)⟩, hb⟩
/-- a call of something that only makes new memory keeps what block B holds -/
theorem four_kept {B : Nat} {x y z u : Value} {w w' : World} (hb : Below w.heap.size w w')
    (h : w.cell? ⟨B, 0, none⟩ = some x ∧ w.cell? ⟨B, 1, none⟩ = some y ∧ w.cell? ⟨B, 2, none⟩ = some z ∧ w.cell? ⟨B, 3, none⟩ = some u) :
    w'.cell? ⟨B, 0, none⟩ = some x ∧ w'.cell? ⟨B, 1, none⟩ = some y ∧ w'.cell? ⟨B, 2, none⟩ = some z ∧ w'.cell? ⟨B, 3, none⟩ = some u := by
  have hB : B < w.heap.size := block_lt_of_cell h.1
  exact ⟨(hb.cell (p := ⟨B, 0, none⟩) hB).trans h.1, (hb.cell (p := ⟨B, 1, none⟩) hB).trans h.2.1, (hb.cell (p := ⟨B, 2, none⟩) hB).trans h.2.2.1, (hb.cell (p := ⟨B, 3, none⟩) hB).trans h.2.2.2⟩
theorem range_none (w : World) : Calls Try.prog 18 #[.int .u8 98, .int .u8 97] w fun e w' => e = .returned (.agg #[.int .u64 0, .int .u64 0, .int .u64 0, .int .u64 0]) ∧ Below w.heap.size w w' := by
  have h := range_any 98 97 w (by omega) (by omega) (by omega) (by omega)
  have e : inR (98 : Int).toNat ((97 : Int).toNat + 1) = inR 98 98 := rfl
  rw [e, inR_none, inR_none, inR_none, inR_none] at h
  exact h
theorem of_four (w : World) (a : Option Addr) (cap : Nat) (hv : RowAt w (.slice a 4 cap) [.int .u8 98, .int .u8 97, .int .u8 99, .int .u8 120]) :
    Calls Try.prog 16 #[.slice a 4 cap] w
      fun e w' => e = .returned (.agg #[.int .u64 (setW F4 0), .int .u64 (setW F4 1), .int .u64 (setW F4 2), .int .u64 (setW F4 3)]) ∧ Below w.heap.size w w' :=
  of_any [98, 97, 99, 120] _ w hv (by intro x hx; simp at hx; omega) (by simp)
set_option maxHeartbeats 2000000 in
set_option maxRecDepth 100000 in
theorem awake_any (w : World) : Calls Try.prog 8 #[] w fun e w' => e = .returned (.bool true) ∧ Below w.heap.size w w' := by
  go_enter Try.func8, Try.ntmps8
  go_wp2_with fail
  refine (of_four _ _ _ ?hv).mono ?_
  case hv => exact ⟨_, 4, rfl, .inr ⟨w.heap.size, 0, rfl, fun i c hc => by rw [Nat.zero_add, World.cell?_alloc_at _ _ _ _ rfl]; simpa using hc⟩⟩
  rintro e w1 ⟨rfl, hb1⟩
  have hz1 := hb1.size
  rw [World.size_alloc] at hz1
  have hB1 : Below w.heap.size w w1 := ((Below.refl _ w).alloc (Nat.le_refl _) _).trans (hb1.mono (by simp))
  clear hb1
  go_wp2_with fail
  obtain ⟨W1, hW1⟩ : ∃ W1, w1.alloc (.cells #[.int .u64 (setW F4 0), .int .u64 (setW F4 1), .int .u64 (setW F4 2), .int .u64 (setW F4 3)] 24) = W1 := ⟨_, rfl⟩
  have hs : W1.cell? ⟨w1.heap.size, 0, none⟩ = some (.int .u64 (setW F4 0)) ∧ W1.cell? ⟨w1.heap.size, 1, none⟩ = some (.int .u64 (setW F4 1)) ∧ W1.cell? ⟨w1.heap.size, 2, none⟩ = some (.int .u64 (setW F4 2)) ∧ W1.cell? ⟨w1.heap.size, 3, none⟩ = some (.int .u64 (setW F4 3)) := by rw [← hW1]; simp
  have hB : Below w.heap.size w W1 := by rw [← hW1]; exact hB1.alloc (by omega) _
  rw [hW1]
  clear hW1 hB1
  refine (runs_four W1).mono ?_
  rintro e w2 ⟨g, cap, rfl, hg, hb⟩
  replace hs := four_kept hb hs
  replace hB := hB.trans (hb.mono hB.size)
  clear hb
  go_wp2_with (first
    | (go_at_call 13; with_reducible refine (count_is F4 4 4 F4_cnt rfl _).mono ?_; rintro e w3 ⟨rfl, hb⟩; replace hs := four_kept hb hs; replace hg := four_kept hb hg; replace hB := hB.trans (hb.mono hB.size); clear hb)
    | (go_at_call 13; with_reducible refine (count_is (fun _ => true) 256 256 full_cnt rfl _).mono ?_; rintro e w3 ⟨rfl, hb⟩; replace hB := hB.trans (hb.mono hB.size); clear hb)
    | (go_at_call 9; with_reducible refine (has_is F4 98 true _ (by omega) (by omega) (by decide)).mono ?_; rintro e w3 ⟨rfl, hb⟩; replace hs := four_kept hb hs; replace hg := four_kept hb hg; replace hB := hB.trans (hb.mono hB.size); clear hb)
    | (go_at_call 9; with_reducible refine (has_is F4 100 false _ (by omega) (by omega) (by decide)).mono ?_; rintro e w3 ⟨rfl, hb⟩; replace hs := four_kept hb hs; replace hg := four_kept hb hg; replace hB := hB.trans (hb.mono hB.size); clear hb)
    | (go_at_call 11; with_reducible refine (bytes_four _).mono ?_; rintro e w3 ⟨v, rfl, hcv, hb⟩; replace hs := four_kept hb hs; replace hg := four_kept hb hg; replace hB := hB.trans (hb.mono hB.size); clear hb)
    | (go_at_call 20; with_reducible refine (full_any _).mono ?_; rintro e w3 ⟨rfl, hb⟩; replace hB := hB.trans (hb.mono hB.size); clear hb)
    | (go_at_call 18; with_reducible refine (range_none _).mono ?_; rintro e w3 ⟨rfl, hb⟩; replace hB := hB.trans (hb.mono hB.size); clear hb)
    | (with_reducible refine wpList_agg BinOp.eql 32 _ _ _ rfl rfl _ _ rfl rfl gt_run _ (eql_run _ _ _ _ _) ?_)
    | (with_reducible refine wpList_agg BinOp.eql 24 _ _ _ rfl rfl _ _ rfl rfl gt_set _ (eql_set _ _ _ _ _ _ _ _ _) ?_))
  go_ret
  exact ⟨rfl, hB⟩
end Go.Proofs.Ytcfjclcbfhajcaa
