/- The walk of the law BytesetMakes: it returns true for every list of bytes and every two bytes. -/
import Derived.Test.YtcfjclcbfhajcaaCombines
namespace Go.Proofs.Ytcfjclcbfhajcaa
open Go.RowKit Go.Shelf
theorem RowAt.below {w w' : World} {v : Value} {cs : List Value} (h : RowAt w v cs) (hb : Below w.heap.size w w') : RowAt w' v cs := by
  obtain ⟨a, cap, rfl, h⟩ := h
  refine ⟨a, cap, rfl, h.imp id ?_⟩
  rintro ⟨b, off, rfl, hc⟩
  exact ⟨b, off, rfl, fun i c hi => (hb.cell (p := ⟨b, off + i, none⟩) (block_lt_of_cell (hc i c hi) : b < _)).trans (hc i c hi)⟩
set_option maxHeartbeats 2000000 in
set_option maxRecDepth 100000 in
theorem makes_any (l : List Int) (v : Value) (lo hi : Int) (w : World) (hv : RowAt w v (l.map (Value.int .u8))) (hl : ∀ x, x ∈ l → 0 ≤ x ∧ x ≤ 255) (hn : l.length ≤ 9223372036854775807)
    (h0 : 0 ≤ lo) (h1 : lo ≤ 255) (h2 : 0 ≤ hi) (h3 : hi ≤ 255) :
    Calls Try.prog 4 #[v, .int .u8 lo, .int .u8 hi] w fun e w' => e = .returned (.bool true) ∧ Below w.heap.size w w' := by
  have hv' := hv
  obtain ⟨a, cap, rfl, -⟩ := hv'
  rw [List.length_map] at hv ⊢
  have HL := Lib.hid hl
  clear hl
  have eqr : ∀ k, setW (inR lo.toNat (hi.toNat + 1)) k = setW (rin lo hi) k := by
    intro k
    refine congrFun (congrArg setW ?_) k
    funext i; unfold inR rin; rw [Bool.eq_iff_iff]; simp; omega
  have hrr := fun w => range_any lo hi w h0 h1 h2 h3
  rw [eqr 0, eqr 1, eqr 2, eqr 3] at hrr
  have HR := Lib.hid hrr
  clear hrr eqr
  have hB : Below w.heap.size w w := Below.refl _ _
  by_cases hlen : (l.length : Int) ≤ 1000
  · go_enter Try.func4, Try.ntmps4
    go_wp2_with (first
      | (go_at_call 8; with_reducible refine (awake_any _).mono ?_; rintro e w1 ⟨rfl, hb⟩; replace hv := hv.below hb; replace hB := hB.trans (hb.mono hB.size); clear hb)
      | (go_at_call 16; with_reducible refine (of_any l _ _ hv HL.out hn).mono ?_; rintro e w1 ⟨rfl, hb⟩; replace hv := hv.below hb; replace hB := hB.trans (hb.mono hB.size); clear hb)
      | (go_at_call 17; with_reducible refine (rlist_any l _ _ hv HL.out hn).mono ?_; rintro e w1 ⟨rfl, hb⟩; replace hv := hv.below hb; replace hB := hB.trans (hb.mono hB.size); clear hb)
      | (go_at_call 18; with_reducible refine (HR.out _).mono ?_; rintro e w1 ⟨rfl, hb⟩; replace hB := hB.trans (hb.mono hB.size); clear hb)
      | (go_at_call 19; with_reducible refine (rrange_any lo hi _).mono ?_; rintro e w1 ⟨rfl, hb⟩; replace hB := hB.trans (hb.mono hB.size); clear hb)
      | (go_at_call 20; with_reducible refine (full_any _).mono ?_; rintro e w1 ⟨rfl, hb⟩; replace hB := hB.trans (hb.mono hB.size); clear hb)
      | (go_at_call 9; with_reducible refine (has_is (fun _ => true) lo true _ h0 h1 rfl).mono ?_; rintro e w1 ⟨rfl, hb⟩; replace hB := hB.trans (hb.mono hB.size); clear hb)
      | (with_reducible refine wpList_agg BinOp.eql 24 _ _ _ rfl rfl _ _ rfl rfl gt_set _ (eql_set _ _ _ _ _ _ _ _ _) ?_))
    go_ret
    exact ⟨rfl, hB⟩
  · go_enter Try.func4, Try.ntmps4
    go_wp2_with (first
      | (go_at_call 8; with_reducible refine (awake_any _).mono ?_; rintro e w1 ⟨rfl, hb⟩; replace hB := hB.trans (hb.mono hB.size); clear hb))
    go_ret
    exact ⟨rfl, hB⟩
end Go.Proofs.Ytcfjclcbfhajcaa
