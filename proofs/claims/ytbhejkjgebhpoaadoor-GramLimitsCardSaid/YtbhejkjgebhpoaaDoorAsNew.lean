/- The three instances of find, at any error and at nil: the first error of the type in the chain, and whether there is one. The library's errors.As by its contracts; nothing that lay in memory before changes. -/
import Derived.Test.YtbhejkjgebhpoaaDoorAsOuter
import Derived.Test.YtbhejkjgebhpoaaDoorRecovers
namespace Go.Proofs.YtbhejkjgebhpoaaDoor
open Go.RowKit Go.Extern.Stop Go.Stop Go.Extern
theorem AsNew_Code_some (e : Err) (c : Int) (w : World) (hc : Err.codeOf e = some c) (he : e.In w) (hg : w.cell? ⟨0, 0, none⟩ = some (rt 29)) :
    Calls Tryd.prog 45 #[e.val, .iface 81 (.pointer (some ⟨w.heap.size, 0, none⟩))] (w.alloc (.cells #[.int .i64 0] 33)) fun ev w' => ev = .returned (.bool true) ∧ w'.cell? ⟨w.heap.size, 0, none⟩ = some (.int .i64 c) ∧ Below w.heap.size w w' ∧ w.heap.size < w'.heap.size ∧ ∀ o, w'.frozen? ⟨w.heap.size, o, none⟩ = false := by
  have hb0 : Below w.heap.size w (w.alloc (.cells #[.int .i64 0] 33)) := (Below.refl _ _).alloc (Nat.le_refl _) _
  have hlg := lt_of_cell hg
  refine (As_Code e w.heap.size (.int .i64 0) (w.alloc (.cells #[.int .i64 0] 33)) (he.kept hb0 (Nat.le_refl _)) (by rw [World.cell?_alloc_lt _ _ ⟨0, 0, none⟩ hlg]; exact hg) (by simp) (by simp)).mono ?_
  intro ev w' h
  rw [hc] at h
  obtain ⟨h1, w1, h2, rfl⟩ := h
  have hz := h2.size
  simp at hz
  refine ⟨h1, ?_, ?_, ?_, fun o => ?_⟩
  · exact World.cell?_setCell_same' _ _ _ (by rw [(bcell h2).1 _ _ (by simp)]; simp)
  · exact (hb0.trans (h2.mono (by simp))).setCell (by simp) _
  · simp; omega
  · rw [World.frozen?_setCell, (bcell h2).2 _ _ (by simp)]; simp
theorem AsNew_Code_none (e : Err) (w : World) (hc : Err.codeOf e = none) (he : e.In w) (hg : w.cell? ⟨0, 0, none⟩ = some (rt 29)) :
    Calls Tryd.prog 45 #[e.val, .iface 81 (.pointer (some ⟨w.heap.size, 0, none⟩))] (w.alloc (.cells #[.int .i64 0] 33)) fun ev w' => ev = .returned (.bool false) ∧ Below (w.alloc (.cells #[.int .i64 0] 33)).heap.size (w.alloc (.cells #[.int .i64 0] 33)) w' := by
  have hb0 : Below w.heap.size w (w.alloc (.cells #[.int .i64 0] 33)) := (Below.refl _ _).alloc (Nat.le_refl _) _
  have hlg := lt_of_cell hg
  refine (As_Code e w.heap.size (.int .i64 0) (w.alloc (.cells #[.int .i64 0] 33)) (he.kept hb0 (Nat.le_refl _)) (by rw [World.cell?_alloc_lt _ _ ⟨0, 0, none⟩ hlg]; exact hg) (by simp) (by simp)).mono ?_
  intro ev w' h
  rw [hc] at h
  exact h
theorem AsNew_Fault_some (e : Err) (c p : Int) (w : World) (hc : Err.faultOf e = some (c, p)) (he : e.In w) (hg : w.cell? ⟨0, 0, none⟩ = some (rt 29)) :
    Calls Tryd.prog 45 #[e.val, .iface 83 (.pointer (some ⟨w.heap.size, 0, none⟩))] (w.alloc (.cells #[.int .i64 0, .int .i64 0] 65)) fun ev w' => ev = .returned (.bool true) ∧ w'.cell? ⟨w.heap.size, 0, none⟩ = some (.int .i64 c) ∧ w'.cell? ⟨w.heap.size, 1, none⟩ = some (.int .i64 p) ∧ Below w.heap.size w w' ∧ w.heap.size < w'.heap.size ∧ ∀ o, w'.frozen? ⟨w.heap.size, o, none⟩ = false := by
  have hb0 : Below w.heap.size w (w.alloc (.cells #[.int .i64 0, .int .i64 0] 65)) := (Below.refl _ _).alloc (Nat.le_refl _) _
  have hlg := lt_of_cell hg
  refine (As_Fault e w.heap.size (.int .i64 0) (.int .i64 0) (w.alloc (.cells #[.int .i64 0, .int .i64 0] 65)) (he.kept hb0 (Nat.le_refl _)) (by rw [World.cell?_alloc_lt _ _ ⟨0, 0, none⟩ hlg]; exact hg) (by simp) (by simp) (by simp) (by simp)).mono ?_
  intro ev w' h
  rw [hc] at h
  obtain ⟨h1, w1, h2, rfl⟩ := h
  have hz := h2.size
  simp at hz
  refine ⟨h1, ?_, ?_, ?_, ?_, fun o => ?_⟩
  · rw [World.cell?_setCell_other _ _ _ _ (by simp), World.cell?_setCell_same' _ _ _ (by rw [(bcell h2).1 _ _ (by simp)]; simp)]
  · exact World.cell?_setCell_same' _ _ _ (by rw [World.cell?_setCell_other _ _ _ _ (by simp), (bcell h2).1 _ _ (by simp)]; simp)
  · exact ((hb0.trans (h2.mono (by simp))).setCell (by simp) _).setCell (by simp) _
  · simp; omega
  · rw [World.frozen?_setCell, World.frozen?_setCell, (bcell h2).2 _ _ (by simp)]; simp
theorem AsNew_Fault_none (e : Err) (w : World) (hc : Err.faultOf e = none) (he : e.In w) (hg : w.cell? ⟨0, 0, none⟩ = some (rt 29)) :
    Calls Tryd.prog 45 #[e.val, .iface 83 (.pointer (some ⟨w.heap.size, 0, none⟩))] (w.alloc (.cells #[.int .i64 0, .int .i64 0] 65)) fun ev w' => ev = .returned (.bool false) ∧ Below (w.alloc (.cells #[.int .i64 0, .int .i64 0] 65)).heap.size (w.alloc (.cells #[.int .i64 0, .int .i64 0] 65)) w' := by
  have hb0 : Below w.heap.size w (w.alloc (.cells #[.int .i64 0, .int .i64 0] 65)) := (Below.refl _ _).alloc (Nat.le_refl _) _
  have hlg := lt_of_cell hg
  refine (As_Fault e w.heap.size (.int .i64 0) (.int .i64 0) (w.alloc (.cells #[.int .i64 0, .int .i64 0] 65)) (he.kept hb0 (Nat.le_refl _)) (by rw [World.cell?_alloc_lt _ _ ⟨0, 0, none⟩ hlg]; exact hg) (by simp) (by simp) (by simp) (by simp)).mono ?_
  intro ev w' h
  rw [hc] at h
  exact h
theorem AsNew_Within_some (e : Err) (b : Nat) (w : World) (hc : Err.withinOf e = some b) (he : e.In w) (hg : w.cell? ⟨0, 0, none⟩ = some (rt 29)) :
    Calls Tryd.prog 45 #[e.val, .iface 82 (.pointer (some ⟨w.heap.size, 0, none⟩))] (w.alloc (.cells #[.pointer none] 59)) fun ev w' => ev = .returned (.bool true) ∧ w'.cell? ⟨w.heap.size, 0, none⟩ = some (.pointer (some ⟨b, 0, none⟩)) ∧ Below w.heap.size w w' ∧ w.heap.size < w'.heap.size ∧ ∀ o, w'.frozen? ⟨w.heap.size, o, none⟩ = false := by
  have hb0 : Below w.heap.size w (w.alloc (.cells #[.pointer none] 59)) := (Below.refl _ _).alloc (Nat.le_refl _) _
  have hlg := lt_of_cell hg
  refine (As_Within e w.heap.size (.pointer none) (w.alloc (.cells #[.pointer none] 59)) (he.kept hb0 (Nat.le_refl _)) (by rw [World.cell?_alloc_lt _ _ ⟨0, 0, none⟩ hlg]; exact hg) (by simp) (by simp)).mono ?_
  intro ev w' h
  rw [hc] at h
  obtain ⟨h1, w1, h2, rfl⟩ := h
  have hz := h2.size
  simp at hz
  refine ⟨h1, ?_, ?_, ?_, fun o => ?_⟩
  · exact World.cell?_setCell_same' _ _ _ (by rw [(bcell h2).1 _ _ (by simp)]; simp)
  · exact (hb0.trans (h2.mono (by simp))).setCell (by simp) _
  · simp; omega
  · rw [World.frozen?_setCell, (bcell h2).2 _ _ (by simp)]; simp
theorem AsNew_Within_none (e : Err) (w : World) (hc : Err.withinOf e = none) (he : e.In w) (hg : w.cell? ⟨0, 0, none⟩ = some (rt 29)) :
    Calls Tryd.prog 45 #[e.val, .iface 82 (.pointer (some ⟨w.heap.size, 0, none⟩))] (w.alloc (.cells #[.pointer none] 59)) fun ev w' => ev = .returned (.bool false) ∧ Below (w.alloc (.cells #[.pointer none] 59)).heap.size (w.alloc (.cells #[.pointer none] 59)) w' := by
  have hb0 : Below w.heap.size w (w.alloc (.cells #[.pointer none] 59)) := (Below.refl _ _).alloc (Nat.le_refl _) _
  have hlg := lt_of_cell hg
  refine (As_Within e w.heap.size (.pointer none) (w.alloc (.cells #[.pointer none] 59)) (he.kept hb0 (Nat.le_refl _)) (by rw [World.cell?_alloc_lt _ _ ⟨0, 0, none⟩ hlg]; exact hg) (by simp) (by simp)).mono ?_
  intro ev w' h
  rw [hc] at h
  exact h
end Go.Proofs.YtbhejkjgebhpoaaDoor
