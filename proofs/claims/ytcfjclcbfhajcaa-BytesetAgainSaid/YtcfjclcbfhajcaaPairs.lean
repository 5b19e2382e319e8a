/- A slice of pairs of bytes, as a list of pairs of numbers. -/
import Derived.Test.YtcfjclcbfhajcaaRuns
import Derived.Test.YtcfjclcbfhajcaaCombines
namespace Go.Proofs.Ytcfjclcbfhajcaa
open Go.RowKit Go.Shelf
def PairsAt (w : World) (v : Value) (rs : List (Nat × Nat)) : Prop := ∃ a cap, v = .slice a rs.length cap ∧ (rs = [] ∨ ∃ b, a = some ⟨b, 0, none⟩ ∧ ∀ i x, rs[i]? = some x → w.cell? ⟨b, i * 2, none⟩ = some (.int .u8 (x.1 : Int)) ∧ w.cell? ⟨b, i * 2 + 1, none⟩ = some (.int .u8 (x.2 : Int)))
theorem runCells_get : ∀ (rs : List (Nat × Nat)) (i : Nat) (x : Nat × Nat), rs[i]? = some x → (runCells rs)[i * 2]? = some (.int .u8 (x.1 : Int)) ∧ (runCells rs)[i * 2 + 1]? = some (.int .u8 (x.2 : Int))
  | [], _, _, h => by cases h
  | y :: r, 0, x, h => by cases h; exact ⟨rfl, rfl⟩
  | y :: r, i + 1, x, h => by
    have := runCells_get r i x h
    rw [show (i + 1) * 2 = i * 2 + 1 + 1 from by omega]
    exact this
theorem PairsAt.of_owns {w : World} {base : Nat} {t : TypeId} {v : Value} {rs : List (Nat × Nat)} (h : w.ownsRow base t 2 v rs.length (runCells rs)) : PairsAt w v rs := by
  have h' := h
  obtain ⟨-, ⟨rfl, h0⟩ | ⟨g, cap, cur, rfl, -⟩⟩ := h'
  · exact ⟨none, 0, by rw [h0], .inl (List.length_eq_zero_iff.1 h0)⟩
  · refine ⟨_, cap, rfl, .inr ⟨g, rfl, fun i x hx => ?_⟩⟩
    obtain ⟨h1, h2⟩ := runCells_get rs i x hx
    have e1 := h.cells rfl _ _ h1
    have e2 := h.cells rfl _ _ h2
    rw [Addr.add_lit, Nat.zero_add] at e1 e2
    exact ⟨e1, e2⟩
theorem PairsAt.below {w w' : World} {v : Value} {rs : List (Nat × Nat)} (h : PairsAt w v rs) (hb : Below w.heap.size w w') : PairsAt w' v rs := by
  obtain ⟨a, cap, rfl, h⟩ := h
  refine ⟨a, cap, rfl, h.imp id ?_⟩
  rintro ⟨b, rfl, hc⟩
  refine ⟨b, rfl, fun i x hi => ?_⟩
  obtain ⟨h1, h2⟩ := hc i x hi
  exact ⟨(hb.cell (p := ⟨b, i * 2, none⟩) (block_lt_of_cell h1 : b < _)).trans h1, (hb.cell (p := ⟨b, i * 2 + 1, none⟩) (block_lt_of_cell h2 : b < _)).trans h2⟩
theorem PairsAt.drew {w : World} {v : Value} {rs : List (Nat × Nat)} (h : PairsAt w v rs) : PairsAt w.drew v rs := h
theorem runs_row (f : Nat → Bool) (w : World) : Calls Try.prog 14 #[.agg #[.int .u64 (setW f 0), .int .u64 (setW f 1), .int .u64 (setW f 2), .int .u64 (setW f 3)]] w fun e w' => ∃ a cap, e = .returned (.slice a (runsTo f 256).length cap) ∧ PairsAt w' (.slice a (runsTo f 256).length cap) (runsTo f 256) ∧ Below w.heap.size w w' := by
  refine (runs_any f w).mono ?_
  rintro e w' ⟨v, rfl, hr, hb⟩
  have h := PairsAt.of_owns hr
  have h' := h
  obtain ⟨a, cap, rfl, -⟩ := h'
  exact ⟨a, cap, rfl, h, hb⟩
theorem rruns_row (f : Nat → Bool) (w : World) : Calls Try.prog 15 #[.agg #[.int .u64 (setW f 0), .int .u64 (setW f 1), .int .u64 (setW f 2), .int .u64 (setW f 3)]] w fun e w' => ∃ a cap, e = .returned (.slice a (runsTo f 256).length cap) ∧ PairsAt w' (.slice a (runsTo f 256).length cap) (runsTo f 256) ∧ Below w.heap.size w w' := by
  refine (rruns_any f w).mono ?_
  rintro e w' ⟨v, rfl, hr, hb⟩
  have h := PairsAt.of_owns hr
  have h' := h
  obtain ⟨a, cap, rfl, -⟩ := h'
  exact ⟨a, cap, rfl, h, hb⟩
end Go.Proofs.Ytcfjclcbfhajcaa
