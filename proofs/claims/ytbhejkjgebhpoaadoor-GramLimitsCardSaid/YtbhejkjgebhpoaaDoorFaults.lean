/- The functions Code, At, Rule, New and Within of package fault, and the new error of package errors: each for every error of this program. -/
import Derived.Test.YtbhejkjgebhpoaaDoorFind
import Derived.Test.YtbhejkjgebhpoaaDoorFindFault
namespace Go.Proofs.YtbhejkjgebhpoaaDoor
open Go.RowKit
theorem Code_some (e : Err) (c : Int) (w : World) (hc : e.codeOf = some c) (he : e.In w) (hg : w.cell? ⟨0, 0, none⟩ = some (rt 29)) :
    Calls Tryd.prog 9 #[e.val] w fun ev w' => ev = .returned (.tuple #[.int .i64 c, .bool true]) ∧ Below w.heap.size w w' := by
  have hA := find_Code_some e c w hc he hg
  clear hc he hg
  go_enter Tryd.func9, Tryd.ntmps9
  go_wp2_with (go_at_call 27; refine hA.mono ?_; rintro ev w1 ⟨rfl, hb⟩; have HB := Lib.hid hb; clear hb)
  go_ret2
  exact ⟨rfl, HB.out⟩
theorem Code_none (e : Err) (w : World) (hc : e.codeOf = none) (he : e.In w) (hg : w.cell? ⟨0, 0, none⟩ = some (rt 29)) :
    Calls Tryd.prog 9 #[e.val] w fun ev w' => ev = .returned (.tuple #[.int .i64 0, .bool false]) ∧ Below w.heap.size w w' := by
  have hA := find_Code_none e w hc he hg
  clear hc he hg
  go_enter Tryd.func9, Tryd.ntmps9
  go_wp2_with (go_at_call 27; refine hA.mono ?_; rintro ev w1 ⟨rfl, hb⟩; have HB := Lib.hid hb; clear hb)
  go_ret2
  exact ⟨rfl, HB.out⟩
theorem Code_nil (w : World) :
    Calls Tryd.prog 9 #[.nilIface] w fun ev w' => ev = .returned (.tuple #[.int .i64 0, .bool false]) ∧ Below w.heap.size w w' := by
  have hA := find_Code_nil w
  go_enter Tryd.func9, Tryd.ntmps9
  go_wp2_with (go_at_call 27; refine hA.mono ?_; rintro ev w1 ⟨rfl, hb⟩; have HB := Lib.hid hb; clear hb)
  go_ret2
  exact ⟨rfl, HB.out⟩
theorem At_some (e : Err) (c p : Int) (w : World) (hc : e.faultOf = some (c, p)) (he : e.In w) (hg : w.cell? ⟨0, 0, none⟩ = some (rt 29)) :
    Calls Tryd.prog 11 #[e.val] w fun ev w' => ev = .returned (.tuple #[.int .i64 p, .bool true]) ∧ Below w.heap.size w w' := by
  have hA := find_Fault_some e c p w hc he hg
  clear hc he hg
  go_enter Tryd.func11, Tryd.ntmps11
  go_wp2_with (go_at_call 29; refine hA.mono ?_; rintro ev w1 ⟨rfl, hb⟩; have HB := Lib.hid hb; clear hb)
  go_ret2
  exact ⟨rfl, HB.out.alloc HB.out.size _⟩
theorem At_none (e : Err) (w : World) (hc : e.faultOf = none) (he : e.In w) (hg : w.cell? ⟨0, 0, none⟩ = some (rt 29)) :
    Calls Tryd.prog 11 #[e.val] w fun ev w' => ev = .returned (.tuple #[.int .i64 0, .bool false]) ∧ Below w.heap.size w w' := by
  have hA := find_Fault_none e w hc he hg
  clear hc he hg
  go_enter Tryd.func11, Tryd.ntmps11
  go_wp2_with (go_at_call 29; refine hA.mono ?_; rintro ev w1 ⟨rfl, hb⟩; have HB := Lib.hid hb; clear hb)
  go_ret2
  exact ⟨rfl, HB.out.alloc HB.out.size _⟩
theorem Rule_within (b : Nat) (r : ByteArray) (e : Err) (w : World) (he : (Err.within b r e).In w) (hg : w.cell? ⟨0, 0, none⟩ = some (rt 29)) :
    Calls Tryd.prog 10 #[.iface 59 (.pointer (some ⟨b, 0, none⟩))] w fun ev w' => ev = .returned (.tuple #[.string r, .bool true]) ∧ Below w.heap.size w w' := by
  have hA := find_Within_some (Err.within b r e) b w rfl he hg
  simp only [Err.val] at hA
  have h0 := he.1
  have hl := lt_of_cell h0
  clear he hg
  have H0 := Lib.hid h0
  clear h0
  go_enter Tryd.func10, Tryd.ntmps10
  go_wp2_with (go_at_call 28; refine hA.mono ?_; rintro ev w1 ⟨rfl, hb⟩; have h1 : w1.cell? ⟨b, 0, none⟩ = some (.string r) := (by rw [(bcell hb).1 _ _ hl]; exact H0.out); have HB := Lib.hid hb; clear hb)
  go_ret2
  exact ⟨rfl, HB.out⟩
theorem Rule_none (e : Err) (w : World) (hc : e.withinOf = none) (he : e.In w) (hg : w.cell? ⟨0, 0, none⟩ = some (rt 29)) :
    Calls Tryd.prog 10 #[e.val] w fun ev w' => ev = .returned (.tuple #[.string ⟨#[]⟩, .bool false]) ∧ Below w.heap.size w w' := by
  have hA := find_Within_none e w hc he hg
  clear hc he hg
  go_enter Tryd.func10, Tryd.ntmps10
  go_wp2_with (go_at_call 28; refine hA.mono ?_; rintro ev w1 ⟨rfl, hb⟩; have HB := Lib.hid hb; clear hb)
  go_ret2
  exact ⟨rfl, HB.out⟩
theorem New_any (c p : Int) (w : World) :
    Calls Tryd.prog 38 #[.int .i64 c, .int .i64 p] w fun ev w' => ev = .returned (.iface 65 (.agg #[.int .i64 c, .int .i64 p])) ∧ w' = w := by
  go_enter Tryd.func38, Tryd.ntmps38
  go_wp2
  go_ret
  exact ⟨rfl, rfl⟩
theorem Within_any (r : ByteArray) (e : Err) (w : World) :
    Calls Tryd.prog 37 #[.string r, e.val] w fun ev w' => ev = .returned (.iface 59 (.pointer (some ⟨w.heap.size, 0, none⟩))) ∧ w' = w.alloc (.cells #[.string r, e.val] 63) := by
  have e1 := eg_val e
  have e2 := eq_val e
  obtain ⟨td, vd, hv⟩ := e.val_ne
  rw [hv] at e1 e2 ⊢
  clear hv
  go_enter Tryd.func37, Tryd.ntmps37
  go_wp2
  go_ret
  exact ⟨rfl, rfl⟩
theorem Within_nil (r : ByteArray) (w : World) :
    Calls Tryd.prog 37 #[.string r, .nilIface] w fun ev w' => ev = .returned .nilIface ∧ w' = w := by
  go_enter Tryd.func37, Tryd.ntmps37
  go_wp2
  go_ret
  exact ⟨rfl, rfl⟩
end Go.Proofs.YtbhejkjgebhpoaaDoor
