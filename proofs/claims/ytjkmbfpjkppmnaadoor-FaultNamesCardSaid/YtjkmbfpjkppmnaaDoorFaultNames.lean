/- The walk of the law FaultNames: it returns true at every code and every offset. -/
import Derived.Test.YtjkmbfpjkppmnaaDoorAwake2
import Derived.Test.YtjkmbfpjkppmnaaDoorRName
import Derived.Test.YtjkmbfpjkppmnaaDoorErrIs
namespace Go.Proofs.YtjkmbfpjkppmnaaDoor
open Go.RowKit
theorem Is_FaultCode (c p : Int) (w : World) :
    Calls Tryd.prog 18 #[.iface 41 (.agg #[.int .i64 c, .int .i64 p]), .iface 30 (.int .i64 c)] w fun ev w' => ev = .returned (.bool true) ∧ Below w.heap.size w w' :=
  (Is_Code (.fault c p) c w trivial).mono fun ev w' h => ⟨h.1.trans (ret_bool (by simp [Err.isCode, Err.codeOf])), h.2⟩
theorem neq_same (s : ByteArray) (w : World) : (Op.stringOp .neq s s).run Tryd.prog w = .ok (.bool false) w := by
  simp [Op.stringOp]
theorem Laid.names {w : World} (h : Laid w) : ∀ i, i < 10 → w.cell? ⟨1, i, none⟩ = some (.string (nm.getD i ⟨#[]⟩)) := h.2
set_option maxHeartbeats 4000000 in
theorem faultNames_any (c p : Int) (w : World) (hl : Laid w) : Calls Tryd.prog 6 #[.int .i64 c, .int .i64 p] w fun ev w' => ev = .returned (.bool true) ∧ Below w.heap.size w w' := by
  have hb0 : Below w.heap.size w w := Below.refl _ _
  have q := neq_same (nameOf c)
  have HB := Lib.hid hb0
  have HL := Lib.hid hl
  clear hl hb0
  go_enter Tryd.func6, Tryd.ntmps6
  go_wp2_with (first
    | (go_at_call 8; with_reducible refine (awake_any _ HL.out).mono ?_; rintro ev w2 ⟨rfl, hb⟩; replace HL := Lib.hid (HL.out.kept hb (Nat.le_refl _)); replace HB := Lib.hid (HB.out.trans (hb.mono HB.out.size)); clear hb)
    | (go_at_call 21; with_reducible refine (name_any _ _ HL.out.names).mono ?_; rintro ev w9 ⟨rfl, hw⟩; obtain rfl := hw.symm; clear hw)
    | (go_at_call 22; with_reducible refine (rname_any _ _).mono ?_; rintro ev w2 ⟨rfl, hb⟩; replace HL := Lib.hid (HL.out.kept hb (Nat.le_refl _)); replace HB := Lib.hid (HB.out.trans (hb.mono HB.out.size)); clear hb)
    | (go_at_call 23; refine (New_any _ _ _).mono ?_; rintro ev w1 ⟨rfl, hw⟩; obtain rfl := hw.symm; clear hw)
    | (go_at_call 18; with_reducible refine (Is_FaultSame _ _ _).mono ?_; rintro ev w9 ⟨rfl, hw⟩; obtain rfl := hw.symm; clear hw)
    | (go_at_call 18; with_reducible refine (Is_FaultCode _ _ _).mono ?_; rintro ev w2 ⟨rfl, hb⟩; replace HL := Lib.hid (HL.out.kept hb (Nat.le_refl _)); replace HB := Lib.hid (HB.out.trans (hb.mono HB.out.size)); clear hb))
  go_ret
  exact ⟨rfl, HB.out⟩
end Go.Proofs.YtjkmbfpjkppmnaaDoor
