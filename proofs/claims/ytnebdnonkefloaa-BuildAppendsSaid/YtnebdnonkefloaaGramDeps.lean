/- gram.Depths on a grammar whose kids come before their nodes. -/
import Derived.Test.YtnebdnonkefloaaGramFirst
import Derived.RegionTactic
import Derived.Deep.OwnRows
import Derived.ChangeAlike
namespace Go.Proofs.Ytnebdnonkefloaa
open Go.RowKit
/-- Block B holds the numbers f, of n. -/
def NAt (f : Nat → Nat) (n B : Nat) (w : World) : Prop := ∀ j, j < n → w.cell? ⟨B, j, none⟩ = some (.int .i64 (f j : Int)) ∧ w.frozen? ⟨B, j, none⟩ = false
def updN (f : Nat → Nat) (i x : Nat) : Nat → Nat := fun j => if j = i then x else f j
theorem NAt.put {f : Nat → Nat} {n B i x : Nat} {w : World} (h : NAt f n B w) : NAt (updN f i x) n B (w.setCell ⟨B, i, none⟩ (.int .i64 (x : Int))) := fun j hj => by
  refine ⟨?_, by rw [World.frozen?_setCell]; exact (h j hj).2⟩
  unfold updN
  by_cases e : j = i
  · subst e; rw [World.cell?_setCell_same' _ _ _ (by rw [(h _ hj).1]; rfl)]; simp
  · rw [World.cell?_setCell_other _ _ _ _ (by intro hh; injection hh with _ h2; exact e h2.symm), (h j hj).1]; simp [e]
theorem NAt.put' {f : Nat → Nat} {n B i x : Nat} {y : Int} {w : World} (h : NAt f n B w) (hy : y = x) : NAt (updN f i x) n B (w.setCell ⟨B, i, none⟩ (.int .i64 y)) := by subst hy; exact h.put
theorem NAt.drew {f : Nat → Nat} {n B : Nat} {w : World} (h : NAt f n B w) : NAt f n B w.drew := h
theorem NAt.below {f : Nat → Nat} {n B k : Nat} {w w' : World} (h : NAt f n B w) (hb : Below k w w') (hB : B < k) : NAt f n B w' := fun j hj => by
  have hc := bcell hb
  exact ⟨by rw [hc.1 _ _ hB]; exact (h j hj).1, by rw [hc.2 _ _ hB]; exact (h j hj).2⟩
theorem NAt.congr {f g : Nat → Nat} {n B : Nat} {w : World} (h : NAt f n B w) (e : ∀ j, j < n → f j = g j) : NAt g n B w := fun j hj => by rw [← e j hj]; exact h j hj
theorem IntsAt.at {w : World} {a : Option Addr} {n cap : Nat} {l : List Int} {i : Nat} {x : Int} (h : IntsAt w (.slice a n cap) l) (hx : l[i]? = some x) : ∃ b off, a = some ⟨b, off, none⟩ ∧ w.cell? ⟨b, off + i, none⟩ = some (.int .i64 x) := by
  obtain ⟨a', cap', e, h⟩ := h
  injection e with e1 e2 e3
  subst e1
  rcases h with h | ⟨b, off, rfl, hc⟩
  · rw [h] at hx; simp at hx
  · exact ⟨b, off, rfl, hc i x hx⟩
theorem infoInt : (Try.prog.info? 3).map (fun i => (i.zero, i.size, i.bytes)) = some (some (.int .i64 0), 1, 8) := by kernel_rfl
theorem NAt.made (w : World) (n : Nat) (t : TypeId) : NAt (fun _ => 0) n w.heap.size (w.alloc (.cells (madeCells #[.int .i64 0] n) t)) := fun j hj => by
  have hb : (w.alloc (.cells (madeCells #[.int .i64 0] n) t)).heap[w.heap.size]? = some (.cells (madeCells #[.int .i64 0] n) t) := heap_alloc_new w _
  refine ⟨?_, by simp⟩
  rw [Lib.cell_of_heap hb]
  simp [madeCells, hj, Nat.mod_one]
end Go.Proofs.Ytnebdnonkefloaa
