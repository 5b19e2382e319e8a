/- The contracts of the reference's List and Range. -/
import Derived.Test.YtipokoalcbaolaaDoorSetRef2
import Derived.Maps.AppendAt
namespace Go.Proofs.YtipokoalcbaolaaDoor
open Go.RowKit
/-- block B holds the bools f -/
def BAt (f : Nat → Bool) (B : Nat) (w : World) : Prop := ∀ j, j < 256 → w.cell? ⟨B, j, none⟩ = some (.bool (f j)) ∧ w.frozen? ⟨B, j, none⟩ = false
theorem BAt.put {f : Nat → Bool} {B k : Nat} {w : World} (h : BAt f B w) : BAt (ins f k) B (w.setCell ⟨B, k, none⟩ (.bool true)) := fun j hj => by
  refine ⟨?_, by rw [World.frozen?_setCell]; exact (h j hj).2⟩
  unfold ins
  by_cases e : j = k
  · subst e; rw [World.cell?_setCell_same' _ _ _ (by rw [(h _ hj).1]; rfl)]; simp
  · rw [World.cell?_setCell_other (h := by intro hh; injection hh with _ h2; exact e h2.symm), (h j hj).1]
    have : (j == k) = false := by rw [beq_eq_false_iff_ne]; exact e
    rw [this]; simp
/-- block B holds four values, and may be written -/
def Four (B : Nat) (w : World) (x y z u : Value) : Prop :=
  (w.cell? ⟨B, 0, none⟩ = some x ∧ w.cell? ⟨B, 1, none⟩ = some y ∧ w.cell? ⟨B, 2, none⟩ = some z ∧ w.cell? ⟨B, 3, none⟩ = some u) ∧ ∀ o, w.frozen? ⟨B, o, none⟩ = false
theorem Four.new (w : World) (x y z u : Value) (t : TypeId) : Four w.heap.size (w.alloc (.cells #[x, y, z, u] t)) x y z u := by
  unfold Four; refine ⟨⟨?_, ?_, ?_, ?_⟩, fun o => ?_⟩ <;> simp
theorem Four.below {B n : Nat} {w w' : World} {x y z u : Value} (h : Four B w x y z u) (hb : Below n w w') (hB : B < n) : Four B w' x y z u := by
  obtain ⟨⟨h0, h1, h2, h3⟩, hf⟩ := h
  exact ⟨⟨(hb.cell (p := ⟨B, 0, none⟩) hB).trans h0, (hb.cell (p := ⟨B, 1, none⟩) hB).trans h1, (hb.cell (p := ⟨B, 2, none⟩) hB).trans h2, (hb.cell (p := ⟨B, 3, none⟩) hB).trans h3⟩, fun o => (hb.frozen (p := ⟨B, o, none⟩) hB).trans (hf o)⟩
def falses : Array Value := Array.replicate 256 (.bool false)
theorem mk256 (w : World) : (Instr.makeSlice 73 (.int .i64 256) (.int .i64 256)).run Tryd.prog w = .ok (.slice (some ⟨w.heap.size, 0, none⟩) 256 256) (w.alloc (.cells falses 4)) := by kernel_rfl
theorem Tryd.infoBool : (Tryd.prog.info? 4).map (fun i => (i.zero, i.size, i.bytes)) = some (some (.bool false), 1, 1) := by kernel_rfl
def bools (f : Nat → Bool) (k : Nat) : List Value := (List.range k).map fun i => .bool (f i)
theorem bools_len (f : Nat → Bool) (k : Nat) : (bools f k).length = k := by unfold bools; simp
theorem bools_succ (f : Nat → Bool) (k : Nat) : bools f (k + 1) = bools f k ++ [.bool (f k)] := by
  unfold bools; rw [List.range_succ, List.map_append]; rfl
def rin (lo hi : Int) : Nat → Bool := fun i => decide (lo ≤ (i : Int)) && decide ((i : Int) ≤ hi)
theorem rin_false {lo hi : Int} {k : Nat} (h : ¬ (lo ≤ (k : Int) ∧ (k : Int) ≤ hi)) : rin lo hi k = false := by
  unfold rin; rw [Bool.and_eq_false_iff]; simp; omega
theorem rin_true {lo hi : Int} {k : Nat} (h : lo ≤ (k : Int) ∧ (k : Int) ≤ hi) : rin lo hi k = true := by
  unfold rin; simp; omega
end Go.Proofs.YtipokoalcbaolaaDoor
