/- The three instances of find, at any error and at nil: the first error of the type in the chain, and whether there is one. The library's errors.As by its contracts; nothing that lay in memory before changes. -/
import Derived.Test.YtbhejkjgebhpoaaDoorAsNew
namespace Go.Proofs.YtbhejkjgebhpoaaDoor
open Go.RowKit Go.Extern.Stop Go.Stop Go.Extern
set_option maxHeartbeats 1000000 in
theorem find_Code_some (e : Err) (c : Int) (w : World) (hc : Err.codeOf e = some c) (he : e.In w) (hg : w.cell? ⟨0, 0, none⟩ = some (rt 29)) :
    Calls Tryd.prog 27 #[e.val] w fun ev w' => ev = .returned (.tuple #[.int .i64 c, .bool true]) ∧ Below w.heap.size w w' := by
  have hA := AsNew_Code_some e c w hc he hg
  clear hc he hg
  go_enter_defers Tryd.func27, Tryd.ntmps27
  go_wp2_with (go_at_call 45; refine hA.mono ?_; rintro ev w1 ⟨rfl, h1, hb, hz, hf⟩; have HB := Lib.hid hb; clear hb)
  refine leaves_cons (f := 44) (args := #[]) (by simp) (by simp [go_sem]) ?_
  refine (rec_Code _).mono ?_
  rintro e u' w'' ⟨rfl, rfl, rfl⟩
  simp [Leaves, settle, results, Tryd.results27, go_sem, HB.out]
set_option maxHeartbeats 1000000 in
theorem find_Code_none (e : Err) (w : World) (hc : Err.codeOf e = none) (he : e.In w) (hg : w.cell? ⟨0, 0, none⟩ = some (rt 29)) :
    Calls Tryd.prog 27 #[e.val] w fun ev w' => ev = .returned (.tuple #[.int .i64 0, .bool false]) ∧ Below w.heap.size w w' := by
  have hA := AsNew_Code_none e w hc he hg
  clear hc he hg
  go_enter_defers Tryd.func27, Tryd.ntmps27
  go_wp2_with (go_at_call 45; refine hA.mono ?_; rintro ev w1 ⟨rfl, hb⟩; replace hb : Below w.heap.size w w1 := ((Below.refl w.heap.size w).alloc (Nat.le_refl _) _).trans (hb.mono (by simp <;> omega)); have HB := Lib.hid hb; clear hb)
  refine leaves_cons (f := 44) (args := #[]) (by simp) (by simp [go_sem]) ?_
  refine (rec_Code _).mono ?_
  rintro e u' w'' ⟨rfl, rfl, rfl⟩
  simp [Leaves, settle, results, Tryd.results27, go_sem, HB.out]
set_option maxHeartbeats 1000000 in
theorem find_Code_nil (w : World) :
    Calls Tryd.prog 27 #[.nilIface] w fun ev w' => ev = .returned (.tuple #[.int .i64 0, .bool false]) ∧ Below w.heap.size w w' := by
  go_enter_defers Tryd.func27, Tryd.ntmps27
  go_wp2_with (go_at_call 45; refine (As_nil _ _).mono ?_; rintro ev w1 ⟨rfl, rfl⟩)
  refine leaves_cons (f := 44) (args := #[]) (by simp) (by simp [go_sem]) ?_
  refine (rec_Code _).mono ?_
  rintro e u' w'' ⟨rfl, rfl, rfl⟩
  have hb : Below w.heap.size w (w.alloc (.cells #[.int .i64 0] 33)) := (Below.refl w.heap.size w).alloc (Nat.le_refl _) _
  simp [Leaves, settle, results, Tryd.results27, go_sem, hb]
set_option maxHeartbeats 1000000 in
theorem find_Within_some (e : Err) (b : Nat) (w : World) (hc : Err.withinOf e = some b) (he : e.In w) (hg : w.cell? ⟨0, 0, none⟩ = some (rt 29)) :
    Calls Tryd.prog 28 #[e.val] w fun ev w' => ev = .returned (.tuple #[.pointer (some ⟨b, 0, none⟩), .bool true]) ∧ Below w.heap.size w w' := by
  have hA := AsNew_Within_some e b w hc he hg
  clear hc he hg
  go_enter_defers Tryd.func28, Tryd.ntmps28
  go_wp2_with (go_at_call 45; refine hA.mono ?_; rintro ev w1 ⟨rfl, h1, hb, hz, hf⟩; have HB := Lib.hid hb; clear hb)
  refine leaves_cons (f := 46) (args := #[]) (by simp) (by simp [go_sem]) ?_
  refine (rec_Within _).mono ?_
  rintro e u' w'' ⟨rfl, rfl, rfl⟩
  simp [Leaves, settle, results, Tryd.results28, go_sem, HB.out]
set_option maxHeartbeats 1000000 in
theorem find_Within_none (e : Err) (w : World) (hc : Err.withinOf e = none) (he : e.In w) (hg : w.cell? ⟨0, 0, none⟩ = some (rt 29)) :
    Calls Tryd.prog 28 #[e.val] w fun ev w' => ev = .returned (.tuple #[.pointer none, .bool false]) ∧ Below w.heap.size w w' := by
  have hA := AsNew_Within_none e w hc he hg
  clear hc he hg
  go_enter_defers Tryd.func28, Tryd.ntmps28
  go_wp2_with (go_at_call 45; refine hA.mono ?_; rintro ev w1 ⟨rfl, hb⟩; replace hb : Below w.heap.size w w1 := ((Below.refl w.heap.size w).alloc (Nat.le_refl _) _).trans (hb.mono (by simp <;> omega)); have HB := Lib.hid hb; clear hb)
  refine leaves_cons (f := 46) (args := #[]) (by simp) (by simp [go_sem]) ?_
  refine (rec_Within _).mono ?_
  rintro e u' w'' ⟨rfl, rfl, rfl⟩
  simp [Leaves, settle, results, Tryd.results28, go_sem, HB.out]
set_option maxHeartbeats 1000000 in
theorem find_Within_nil (w : World) :
    Calls Tryd.prog 28 #[.nilIface] w fun ev w' => ev = .returned (.tuple #[.pointer none, .bool false]) ∧ Below w.heap.size w w' := by
  go_enter_defers Tryd.func28, Tryd.ntmps28
  go_wp2_with (go_at_call 45; refine (As_nil _ _).mono ?_; rintro ev w1 ⟨rfl, rfl⟩)
  refine leaves_cons (f := 46) (args := #[]) (by simp) (by simp [go_sem]) ?_
  refine (rec_Within _).mono ?_
  rintro e u' w'' ⟨rfl, rfl, rfl⟩
  have hb : Below w.heap.size w (w.alloc (.cells #[.pointer none] 59)) := (Below.refl w.heap.size w).alloc (Nat.le_refl _) _
  simp [Leaves, settle, results, Tryd.results28, go_sem, hb]
end Go.Proofs.YtbhejkjgebhpoaaDoor
