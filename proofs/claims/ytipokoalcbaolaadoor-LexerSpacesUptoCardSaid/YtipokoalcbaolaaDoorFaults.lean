/- The functions Code, At, Rule, New and Within of package fault, and the new error of package errors: each for every error of this program. -/
import Derived.Test.YtipokoalcbaolaaDoorFind
import Derived.Test.YtipokoalcbaolaaDoorFindFault
namespace Go.Proofs.YtipokoalcbaolaaDoor
open Go.RowKit
theorem Code_some (e : Err) (c : Int) (w : World) (hc : e.codeOf = some c) (he : e.In w) (hg : w.cell? ⟨1, 0, none⟩ = some (rt 25)) :
    Calls Tryd.prog 18 #[e.val] w fun ev w' => ev = .returned (.tuple #[.int .i64 c, .bool true]) ∧ Below w.heap.size w w' := by
  have hA := find_Code_some e c w hc he hg
  clear hc he hg
  go_enter Tryd.func18, Tryd.ntmps18
  go_wp2_with (go_at_call 28; refine hA.mono ?_; rintro ev w1 ⟨rfl, hb⟩; have HB := Lib.hid hb; clear hb)
  go_ret2
  exact ⟨rfl, HB.out⟩
theorem Code_none (e : Err) (w : World) (hc : e.codeOf = none) (he : e.In w) (hg : w.cell? ⟨1, 0, none⟩ = some (rt 25)) :
    Calls Tryd.prog 18 #[e.val] w fun ev w' => ev = .returned (.tuple #[.int .i64 0, .bool false]) ∧ Below w.heap.size w w' := by
  have hA := find_Code_none e w hc he hg
  clear hc he hg
  go_enter Tryd.func18, Tryd.ntmps18
  go_wp2_with (go_at_call 28; refine hA.mono ?_; rintro ev w1 ⟨rfl, hb⟩; have HB := Lib.hid hb; clear hb)
  go_ret2
  exact ⟨rfl, HB.out⟩
theorem Code_nil (w : World) :
    Calls Tryd.prog 18 #[.nilIface] w fun ev w' => ev = .returned (.tuple #[.int .i64 0, .bool false]) ∧ Below w.heap.size w w' := by
  have hA := find_Code_nil w
  go_enter Tryd.func18, Tryd.ntmps18
  go_wp2_with (go_at_call 28; refine hA.mono ?_; rintro ev w1 ⟨rfl, hb⟩; have HB := Lib.hid hb; clear hb)
  go_ret2
  exact ⟨rfl, HB.out⟩
theorem At_some (e : Err) (c p : Int) (w : World) (hc : e.faultOf = some (c, p)) (he : e.In w) (hg : w.cell? ⟨1, 0, none⟩ = some (rt 25)) :
    Calls Tryd.prog 19 #[e.val] w fun ev w' => ev = .returned (.tuple #[.int .i64 p, .bool true]) ∧ Below w.heap.size w w' := by
  have hA := find_Fault_some e c p w hc he hg
  clear hc he hg
  go_enter Tryd.func19, Tryd.ntmps19
  go_wp2_with (go_at_call 29; refine hA.mono ?_; rintro ev w1 ⟨rfl, hb⟩; have HB := Lib.hid hb; clear hb)
  go_ret2
  exact ⟨rfl, HB.out.alloc HB.out.size _⟩
theorem At_none (e : Err) (w : World) (hc : e.faultOf = none) (he : e.In w) (hg : w.cell? ⟨1, 0, none⟩ = some (rt 25)) :
    Calls Tryd.prog 19 #[e.val] w fun ev w' => ev = .returned (.tuple #[.int .i64 0, .bool false]) ∧ Below w.heap.size w w' := by
  have hA := find_Fault_none e w hc he hg
  clear hc he hg
  go_enter Tryd.func19, Tryd.ntmps19
  go_wp2_with (go_at_call 29; refine hA.mono ?_; rintro ev w1 ⟨rfl, hb⟩; have HB := Lib.hid hb; clear hb)
  go_ret2
  exact ⟨rfl, HB.out.alloc HB.out.size _⟩
theorem New_any (c p : Int) (w : World) :
    Calls Tryd.prog 20 #[.int .i64 c, .int .i64 p] w fun ev w' => ev = .returned (.iface 68 (.agg #[.int .i64 c, .int .i64 p])) ∧ w' = w := by
  go_enter Tryd.func20, Tryd.ntmps20
  go_wp2
  go_ret
  exact ⟨rfl, rfl⟩
end Go.Proofs.YtipokoalcbaolaaDoor
