/- The functions Code, At, Rule, New and Within of package fault, and the new error of package errors: each for every error of this program. -/
import Derived.Test.YtjkmbfpjkppmnaaDoorFind
import Derived.Test.YtjkmbfpjkppmnaaDoorFindFault
namespace Go.Proofs.YtjkmbfpjkppmnaaDoor
open Go.RowKit
theorem Code_some (e : Err) (c : Int) (w : World) (hc : e.codeOf = some c) (he : e.In w) (hg : w.cell? ⟨0, 0, none⟩ = some (rt 28)) :
    Calls Tryd.prog 11 #[e.val] w fun ev w' => ev = .returned (.tuple #[.int .i64 c, .bool true]) ∧ Below w.heap.size w w' := by
  have hA := find_Code_some e c w hc he hg
  clear hc he hg
  go_enter Tryd.func11, Tryd.ntmps11
  go_wp2_with (go_at_call 25; refine hA.mono ?_; rintro ev w1 ⟨rfl, hb⟩; have HB := Lib.hid hb; clear hb)
  go_ret2
  exact ⟨rfl, HB.out⟩
theorem Code_none (e : Err) (w : World) (hc : e.codeOf = none) (he : e.In w) (hg : w.cell? ⟨0, 0, none⟩ = some (rt 28)) :
    Calls Tryd.prog 11 #[e.val] w fun ev w' => ev = .returned (.tuple #[.int .i64 0, .bool false]) ∧ Below w.heap.size w w' := by
  have hA := find_Code_none e w hc he hg
  clear hc he hg
  go_enter Tryd.func11, Tryd.ntmps11
  go_wp2_with (go_at_call 25; refine hA.mono ?_; rintro ev w1 ⟨rfl, hb⟩; have HB := Lib.hid hb; clear hb)
  go_ret2
  exact ⟨rfl, HB.out⟩
theorem Code_nil (w : World) :
    Calls Tryd.prog 11 #[.nilIface] w fun ev w' => ev = .returned (.tuple #[.int .i64 0, .bool false]) ∧ Below w.heap.size w w' := by
  have hA := find_Code_nil w
  go_enter Tryd.func11, Tryd.ntmps11
  go_wp2_with (go_at_call 25; refine hA.mono ?_; rintro ev w1 ⟨rfl, hb⟩; have HB := Lib.hid hb; clear hb)
  go_ret2
  exact ⟨rfl, HB.out⟩
theorem At_some (e : Err) (c p : Int) (w : World) (hc : e.faultOf = some (c, p)) (he : e.In w) (hg : w.cell? ⟨0, 0, none⟩ = some (rt 28)) :
    Calls Tryd.prog 12 #[e.val] w fun ev w' => ev = .returned (.tuple #[.int .i64 p, .bool true]) ∧ Below w.heap.size w w' := by
  have hA := find_Fault_some e c p w hc he hg
  clear hc he hg
  go_enter Tryd.func12, Tryd.ntmps12
  go_wp2_with (go_at_call 26; refine hA.mono ?_; rintro ev w1 ⟨rfl, hb⟩; have HB := Lib.hid hb; clear hb)
  go_ret2
  exact ⟨rfl, HB.out.alloc HB.out.size _⟩
theorem At_none (e : Err) (w : World) (hc : e.faultOf = none) (he : e.In w) (hg : w.cell? ⟨0, 0, none⟩ = some (rt 28)) :
    Calls Tryd.prog 12 #[e.val] w fun ev w' => ev = .returned (.tuple #[.int .i64 0, .bool false]) ∧ Below w.heap.size w w' := by
  have hA := find_Fault_none e w hc he hg
  clear hc he hg
  go_enter Tryd.func12, Tryd.ntmps12
  go_wp2_with (go_at_call 26; refine hA.mono ?_; rintro ev w1 ⟨rfl, hb⟩; have HB := Lib.hid hb; clear hb)
  go_ret2
  exact ⟨rfl, HB.out.alloc HB.out.size _⟩
theorem Rule_within (b : Nat) (r : ByteArray) (e : Err) (w : World) (he : (Err.within b r e).In w) (hg : w.cell? ⟨0, 0, none⟩ = some (rt 28)) :
    Calls Tryd.prog 13 #[.iface 60 (.pointer (some ⟨b, 0, none⟩))] w fun ev w' => ev = .returned (.tuple #[.string r, .bool true]) ∧ Below w.heap.size w w' := by
  have hA := find_Within_some (Err.within b r e) b w rfl he hg
  simp only [Err.val] at hA
  have h0 := he.1
  have hl := lt_of_cell h0
  clear he hg
  have H0 := Lib.hid h0
  clear h0
  go_enter Tryd.func13, Tryd.ntmps13
  go_wp2_with (go_at_call 27; refine hA.mono ?_; rintro ev w1 ⟨rfl, hb⟩; have h1 : w1.cell? ⟨b, 0, none⟩ = some (.string r) := (by rw [(bcell hb).1 _ _ hl]; exact H0.out); have HB := Lib.hid hb; clear hb)
  go_ret2
  exact ⟨rfl, HB.out⟩
theorem Rule_none (e : Err) (w : World) (hc : e.withinOf = none) (he : e.In w) (hg : w.cell? ⟨0, 0, none⟩ = some (rt 28)) :
    Calls Tryd.prog 13 #[e.val] w fun ev w' => ev = .returned (.tuple #[.string ⟨#[]⟩, .bool false]) ∧ Below w.heap.size w w' := by
  have hA := find_Within_none e w hc he hg
  clear hc he hg
  go_enter Tryd.func13, Tryd.ntmps13
  go_wp2_with (go_at_call 27; refine hA.mono ?_; rintro ev w1 ⟨rfl, hb⟩; have HB := Lib.hid hb; clear hb)
  go_ret2
  exact ⟨rfl, HB.out⟩
theorem New_any (c p : Int) (w : World) :
    Calls Tryd.prog 23 #[.int .i64 c, .int .i64 p] w fun ev w' => ev = .returned (.iface 41 (.agg #[.int .i64 c, .int .i64 p])) ∧ w' = w := by
  go_enter Tryd.func23, Tryd.ntmps23
  go_wp2
  go_ret
  exact ⟨rfl, rfl⟩
theorem errNew_any (s : ByteArray) (w : World) :
    Calls Tryd.prog 24 #[.string s] w fun ev w' => ev = .returned (.iface 83 (.pointer (some ⟨w.heap.size, 0, none⟩))) ∧ w' = w.alloc (.cells #[.string s] 85) := by
  go_enter Tryd.func24, Tryd.ntmps24
  go_wp2
  go_ret
  exact ⟨rfl, rfl⟩
theorem Within_any (r : ByteArray) (e : Err) (w : World) :
    Calls Tryd.prog 15 #[.string r, e.val] w fun ev w' => ev = .returned (.iface 60 (.pointer (some ⟨w.heap.size, 0, none⟩))) ∧ w' = w.alloc (.cells #[.string r, e.val] 64) := by
  have e1 := eg_val e
  have e2 := eq_val e
  obtain ⟨td, vd, hv⟩ := e.val_ne
  rw [hv] at e1 e2 ⊢
  clear hv
  go_enter Tryd.func15, Tryd.ntmps15
  go_wp2
  go_ret
  exact ⟨rfl, rfl⟩
theorem Within_nil (r : ByteArray) (w : World) :
    Calls Tryd.prog 15 #[.string r, .nilIface] w fun ev w' => ev = .returned .nilIface ∧ w' = w := by
  go_enter Tryd.func15, Tryd.ntmps15
  go_wp2
  go_ret
  exact ⟨rfl, rfl⟩
end Go.Proofs.YtjkmbfpjkppmnaaDoor
