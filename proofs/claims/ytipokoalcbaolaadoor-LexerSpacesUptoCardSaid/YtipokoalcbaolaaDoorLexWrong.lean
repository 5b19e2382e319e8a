/- The law package's wrong, at a fault that is the one it asks for. What the rows lay. -/
import Derived.Test.YtipokoalcbaolaaDoorLexStr
import Derived.Test.YtipokoalcbaolaaDoorFaults
namespace Go.Proofs.YtipokoalcbaolaaDoor
open Go.RowKit
/-- The two listed variables hold what the program's text lays in them. -/
def LexLaid (w : World) : Prop := w.cell? ⟨1, 0, none⟩ = some (rt 25) ∧ SignsAt w
theorem LexLaid.kept {n : Nat} {w w' : World} (h : LexLaid w) (hb : Below n w w') (hn : w.heap.size ≤ n) : LexLaid w' :=
  ⟨by have := lt_of_cell h.1; rw [(bcell hb).1 _ _ (by omega)]; exact h.1, h.2.kept hb hn⟩
set_option maxHeartbeats 1000000 in
theorem wrong_yes (k : Nat) (w : World) (hg : w.cell? ⟨1, 0, none⟩ = some (rt 25)) :
    Calls Tryd.prog 11 #[.iface 68 (.agg #[.int .i64 1, .int .i64 (k : Int)]), .int .i64 (k : Int)] w fun e w' => e = .returned (.bool true) ∧ Below w.heap.size w w' := by
  have hC : Calls Tryd.prog 18 #[.iface 68 (.agg #[.int .i64 1, .int .i64 (k : Int)])] w fun ev w' => ev = .returned (.tuple #[.int .i64 1, .bool true]) ∧ Below w.heap.size w w' := Code_some (.fault 1 (k : Int)) 1 w rfl trivial hg
  have hA : ∀ w, w.cell? ⟨1, 0, none⟩ = some (rt 25) → Calls Tryd.prog 19 #[.iface 68 (.agg #[.int .i64 1, .int .i64 (k : Int)])] w fun ev w' => ev = .returned (.tuple #[.int .i64 (k : Int), .bool true]) ∧ Below w.heap.size w w' := fun w h => At_some (.fault 1 (k : Int)) 1 (k : Int) w rfl trivial h
  have HC := Lib.hid hC
  have HA := Lib.hid hA
  have HG := Lib.hid hg
  clear hC hA hg
  go_enter Tryd.func11, Tryd.ntmps11
  go_wp2_with (first
    | (go_at_call 18; (with_reducible refine HC.out.mono ?_); rintro e w1 ⟨rfl, hb1⟩; have HB1 := Lib.hid hb1; have HG1 : Hid (w1.cell? ⟨1, 0, none⟩ = some (rt 25)) := Lib.hid (by have := lt_of_cell HG.out; rw [(bcell hb1).1 _ _ this]; exact HG.out); clear hb1)
    | (go_at_call 19; (with_reducible refine (HA.out _ HG1.out).mono ?_); rintro e w2 ⟨rfl, hb2⟩; have HB2 := Lib.hid hb2; clear hb2))
  go_ret
  exact ⟨rfl, HB1.out.trans (HB2.out.mono HB1.out.size)⟩
end Go.Proofs.YtipokoalcbaolaaDoor
