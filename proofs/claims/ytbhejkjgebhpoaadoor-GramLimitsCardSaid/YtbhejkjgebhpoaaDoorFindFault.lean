/- The instance of find for faults, whose result is a variable of its own. -/
import Derived.Test.YtbhejkjgebhpoaaDoorAsNew
namespace Go.Proofs.YtbhejkjgebhpoaaDoor
open Go.RowKit Go.Extern.Stop Go.Stop Go.Extern
set_option maxHeartbeats 1000000 in
theorem find_Fault_some (e : Err) (c p : Int) (w : World) (hc : e.faultOf = some (c, p)) (he : e.In w) (hg : w.cell? ⟨0, 0, none⟩ = some (rt 29)) :
    Calls Tryd.prog 29 #[e.val] w fun ev w' => ev = .returned (.tuple #[.agg #[.int .i64 c, .int .i64 p], .bool true]) ∧ Below w.heap.size w w' := by
  have hlg := lt_of_cell hg
  have hb0 : Below w.heap.size w (w.alloc (.cells #[.int .i64 0, .int .i64 0] 65)) := (Below.refl _ _).alloc (Nat.le_refl _) _
  have hA := AsNew_Fault_some e c p (w.alloc (.cells #[.int .i64 0, .int .i64 0] 65)) hc (he.kept hb0 (Nat.le_refl _)) (by rw [World.cell?_alloc_lt _ _ ⟨0, 0, none⟩ hlg]; exact hg)
  have hs : (w.alloc (.cells #[.int .i64 0, .int .i64 0] 65)).heap.size = w.heap.size + 1 := by simp
  rw [hs] at hA
  clear hc he hg hlg hs
  have HB0 := Lib.hid hb0
  clear hb0
  go_enter_defers Tryd.func29, Tryd.ntmps29
  go_wp2_with (go_at_call 45; refine hA.mono ?_; rintro ev w1 ⟨rfl, h0, h1, hb, hz, hf⟩; have r0 : w1.cell? ⟨w.heap.size, 0, none⟩ = some (.int .i64 0) := (by rw [(bcell hb).1 _ _ (by simp <;> omega)]; simp); have r1 : w1.cell? ⟨w.heap.size, 1, none⟩ = some (.int .i64 0) := (by rw [(bcell hb).1 _ _ (by simp <;> omega)]; simp); have rf0 : w1.frozen? ⟨w.heap.size, 0, none⟩ = false := (by rw [(bcell hb).2 _ _ (by simp <;> omega)]; simp); have rf1 : w1.frozen? ⟨w.heap.size, 1, none⟩ = false := (by rw [(bcell hb).2 _ _ (by simp <;> omega)]; simp); replace hb := HB0.out.trans (hb.mono (by simp <;> omega)); have HB := Lib.hid hb; clear hb)
  refine leaves_cons (f := 47) (args := #[]) (by simp) (by simp [go_sem]) ?_
  refine (rec_Fault _).mono ?_
  rintro e u' w'' ⟨rfl, rfl, hw⟩
  have c0 : w''.cell? ⟨w.heap.size, 0, none⟩ = some (.int .i64 c) := by rw [hw]; simp [go_sem, r0, World.cell?_setCell_other]
  have c1 : w''.cell? ⟨w.heap.size, 1, none⟩ = some (.int .i64 p) := by rw [hw]; exact World.cell?_setCell_same' _ _ _ (by rw [World.cell?_setCell_other _ _ _ _ (by simp), World.cell?_setCell_same' _ _ _ (by rw [World.cell?_setCell_other _ _ _ _ (by simp), r1]; rfl)]; rfl)
  have hb : Below w.heap.size w w'' := by rw [hw]; exact (((HB.out.setCell (Nat.le_refl _) _).setCell (Nat.le_refl _) _).setCell (Nat.le_refl _) _).setCell (Nat.le_refl _) _
  clear hw
  simp [Leaves, settle, results, Tryd.results29, go_sem, c0, c1, hb]
set_option maxHeartbeats 1000000 in
theorem find_Fault_none (e : Err) (w : World) (hc : e.faultOf = none) (he : e.In w) (hg : w.cell? ⟨0, 0, none⟩ = some (rt 29)) :
    Calls Tryd.prog 29 #[e.val] w fun ev w' => ev = .returned (.tuple #[.agg #[.int .i64 0, .int .i64 0], .bool false]) ∧ Below w.heap.size w w' := by
  have hlg := lt_of_cell hg
  have hb0 : Below w.heap.size w (w.alloc (.cells #[.int .i64 0, .int .i64 0] 65)) := (Below.refl _ _).alloc (Nat.le_refl _) _
  have hA := AsNew_Fault_none e (w.alloc (.cells #[.int .i64 0, .int .i64 0] 65)) hc (he.kept hb0 (Nat.le_refl _)) (by rw [World.cell?_alloc_lt _ _ ⟨0, 0, none⟩ hlg]; exact hg)
  have hs : (w.alloc (.cells #[.int .i64 0, .int .i64 0] 65)).heap.size = w.heap.size + 1 := by simp
  rw [hs] at hA
  clear hc he hg hlg hs
  have HB0 := Lib.hid hb0
  clear hb0
  go_enter_defers Tryd.func29, Tryd.ntmps29
  go_wp2_with (go_at_call 45; refine hA.mono ?_; rintro ev w1 ⟨rfl, hb⟩; have r0 : w1.cell? ⟨w.heap.size, 0, none⟩ = some (.int .i64 0) := (by rw [(bcell hb).1 _ _ (by simp <;> omega)]; simp); have r1 : w1.cell? ⟨w.heap.size, 1, none⟩ = some (.int .i64 0) := (by rw [(bcell hb).1 _ _ (by simp <;> omega)]; simp); have rf0 : w1.frozen? ⟨w.heap.size, 0, none⟩ = false := (by rw [(bcell hb).2 _ _ (by simp <;> omega)]; simp); have rf1 : w1.frozen? ⟨w.heap.size, 1, none⟩ = false := (by rw [(bcell hb).2 _ _ (by simp <;> omega)]; simp); replace hb := (HB0.out.alloc (by simp) _).trans (hb.mono (by simp <;> omega)); have HB := Lib.hid hb; clear hb)
  refine leaves_cons (f := 47) (args := #[]) (by simp) (by simp [go_sem]) ?_
  refine (rec_Fault _).mono ?_
  rintro e u' w'' ⟨rfl, rfl, hw⟩
  have c0 : w''.cell? ⟨w.heap.size, 0, none⟩ = some (.int .i64 0) := by rw [hw]; simp [go_sem, r0, World.cell?_setCell_other]
  have c1 : w''.cell? ⟨w.heap.size, 1, none⟩ = some (.int .i64 0) := by rw [hw]; simp [go_sem, r1, World.cell?_setCell_other]
  have hb : Below w.heap.size w w'' := by rw [hw]; exact (HB.out.setCell (Nat.le_refl _) _).setCell (Nat.le_refl _) _
  clear hw
  simp [Leaves, settle, results, Tryd.results29, go_sem, c0, c1, hb]
set_option maxHeartbeats 1000000 in
theorem find_Fault_nil (w : World) :
    Calls Tryd.prog 29 #[.nilIface] w fun ev w' => ev = .returned (.tuple #[.agg #[.int .i64 0, .int .i64 0], .bool false]) ∧ Below w.heap.size w w' := by
  go_enter_defers Tryd.func29, Tryd.ntmps29
  go_wp2_with (go_at_call 45; refine (As_nil _ _).mono ?_; rintro ev w1 ⟨rfl, rfl⟩)
  refine leaves_cons (f := 47) (args := #[]) (by simp) (by simp [go_sem]) ?_
  refine (rec_Fault _).mono ?_
  rintro e u' w'' ⟨rfl, rfl, hw⟩
  have c0 : w''.cell? ⟨w.heap.size, 0, none⟩ = some (.int .i64 0) := by rw [hw]; simp [go_sem]
  have c1 : w''.cell? ⟨w.heap.size, 1, none⟩ = some (.int .i64 0) := by rw [hw]; simp [go_sem]
  have hb : Below w.heap.size w w'' := by rw [hw]; go_grown
  clear hw
  simp [Leaves, settle, results, Tryd.results29, go_sem, c0, c1, hb]
end Go.Proofs.YtbhejkjgebhpoaaDoor
