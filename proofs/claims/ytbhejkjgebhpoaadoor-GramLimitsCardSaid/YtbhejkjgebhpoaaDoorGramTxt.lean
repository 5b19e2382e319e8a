/- The text of the error that Check makes of a bad rule's name; the example grammar; the reference's Small. -/
import Derived.Test.YtbhejkjgebhpoaaDoorGramClone
import Derived.Test.YtbhejkjgebhpoaaDoorGramChk
import Derived.Test.YtbhejkjgebhpoaaDoorGramRef
import Derived.Deep.RegionHeld3
import Derived.Conc.MuLone
namespace Go.Proofs.YtbhejkjgebhpoaaDoor
open Go.RowKit
set_option maxRecDepth 100000 in
theorem itoa_ten (w : World) : Calls Tryd.prog 78 #[.int .i64 10] w fun ev w' => ev = .returned (.string ⟨#[49, 48]⟩) ∧ w' = w := by
  go_enter Tryd.func78, Tryd.ntmps78
  go_wp2
  go_ret
  exact ⟨by kernel_rfl, rfl⟩
theorem gcode_text (w : World) : Calls Tryd.prog 77 #[.int .i64 10] w fun ev w' => ev = .returned (.string ⟨#[101, 114, 114, 111, 114, 32, 49, 48]⟩) ∧ Below w.heap.size w w' := by
  go_enter Tryd.func77, Tryd.ntmps77
  go_wp2_with (go_at_call 78; (with_reducible refine (itoa_ten _).mono ?_); rintro ev w1 ⟨rfl, hw⟩; obtain rfl := hw.symm; clear hw)
  go_ret
  exact ⟨by kernel_rfl, Below.refl _ _⟩
theorem gfault_text (p : Int) (w : World) : Calls Tryd.prog 94 #[.agg #[.int .i64 10, .int .i64 p]] w fun ev w' => ev = .returned (.string ⟨#[101, 114, 114, 111, 114, 32, 49, 48]⟩) ∧ Below w.heap.size w w' := by
  go_enter Tryd.func94, Tryd.ntmps94
  go_wp2_with (go_at_call 77; (with_reducible refine (gcode_text _).mono ?_); rintro ev w1 ⟨rfl, hb⟩; have HB := Lib.hid ((one_new w _).trans (hb.mono (one_new w _).size)); clear hb)
  go_ret
  exact ⟨rfl, HB.out⟩
theorem gm_fault (c p : Int) (w : World) : (Go.method 248 65 (.agg #[.int .i64 c, .int .i64 p]) "Error").run Tryd.prog w = .ok (94, .agg #[.int .i64 c, .int .i64 p]) w := by kernel_rfl
theorem gn_fault (c p : Int) (w : World) : (nilAhead 248 65 (.agg #[.int .i64 c, .int .i64 p]) "Error").run Tryd.prog w = .ok (some false) w := by kernel_rfl
theorem gm_within (b : Nat) (w : World) : (Go.method 248 59 (.pointer (some ⟨b, 0, none⟩)) "Error").run Tryd.prog w = .ok (92, .pointer (some ⟨b, 0, none⟩)) w := by kernel_rfl
theorem gn_within (b : Nat) (w : World) : (nilAhead 248 59 (.pointer (some ⟨b, 0, none⟩)) "Error").run Tryd.prog w = .ok (some false) w := by kernel_rfl
theorem ge_fault (args : Array Value) (w : World) : (callFunc 94 args).run Tryd.prog w = .ok (.enter 94 args) w := MuLone.run_callFunc_enter Tryd.func94 (by kernel_rfl) rfl args w
theorem ge_within (args : Array Value) (w : World) : (callFunc 92 args).run Tryd.prog w = .ok (.enter 92 args) w := MuLone.run_callFunc_enter Tryd.func92 (by kernel_rfl) rfl args w
theorem gheldK {w W W1 : World} {b : Nat} {x y : Value} (hl : b < w.heap.size) (hb : Below W.heap.size W W1) (h : W.cell? ⟨b, 0, none⟩ = some x ∧ W.cell? ⟨b, 1, none⟩ = some y ∧ Below w.heap.size w W) :
    W1.cell? ⟨b, 0, none⟩ = some x ∧ W1.cell? ⟨b, 1, none⟩ = some y ∧ Below w.heap.size w W1 := by
  have hz := h.2.2.size
  exact ⟨by rw [(bcell hb).1 _ _ (by omega)]; exact h.1, by rw [(bcell hb).1 _ _ (by omega)]; exact h.2.1, h.2.2.trans (hb.mono hz)⟩
def badText : ByteArray := ⟨#[114, 117, 108, 101, 32, 114, 117, 108, 101, 115, 58, 32, 101, 114, 114, 111, 114, 32, 49, 48]⟩
set_option maxHeartbeats 1000000 in
theorem gwithin_text (b : Nat) (w : World) (h0 : w.cell? ⟨b, 0, none⟩ = some (.string sRules)) (h1 : w.cell? ⟨b, 1, none⟩ = some (.iface 65 (.agg #[.int .i64 10, .int .i64 0]))) :
    Calls Tryd.prog 92 #[.pointer (some ⟨b, 0, none⟩)] w fun ev w' => ev = .returned (.string badText) ∧ Below w.heap.size w w' := by
  have hl := lt_of_cell h0
  have me := gm_fault 10 0
  have ee := ge_fault
  have ne := gn_fault 10 0
  have k1 : ∀ w, (Op.stringOp .add ⟨#[114, 117, 108, 101, 32]⟩ ⟨#[114, 117, 108, 101, 115]⟩).run Tryd.prog w = .ok (.string ⟨#[114, 117, 108, 101, 32, 114, 117, 108, 101, 115]⟩) w := fun w => by kernel_rfl
  have k2 : ∀ w, (Op.stringOp .add ⟨#[114, 117, 108, 101, 32, 114, 117, 108, 101, 115]⟩ ⟨#[58, 32]⟩).run Tryd.prog w = .ok (.string ⟨#[114, 117, 108, 101, 32, 114, 117, 108, 101, 115, 58, 32]⟩) w := fun w => by kernel_rfl
  have k3 : ∀ w, (Op.stringOp .add ⟨#[114, 117, 108, 101, 32, 114, 117, 108, 101, 115, 58, 32]⟩ ⟨#[101, 114, 114, 111, 114, 32, 49, 48]⟩).run Tryd.prog w = .ok (.string ⟨#[114, 117, 108, 101, 32, 114, 117, 108, 101, 115, 58, 32, 101, 114, 114, 111, 114, 32, 49, 48]⟩) w := fun w => by kernel_rfl
  go_enter Tryd.func92, Tryd.ntmps92
  go_wp2
  have hS : w.drew.cell? ⟨b, 0, none⟩ = some (.string ⟨#[114, 117, 108, 101, 115]⟩) ∧ w.drew.cell? ⟨b, 1, none⟩ = some (.iface 65 (.agg #[.int .i64 10, .int .i64 0])) ∧ Below w.heap.size w w.drew := ⟨h0, h1, (Below.refl _ _).drew⟩
  clear h0 h1
  go_region_held3 (fun W => W.cell? ⟨b, 0, none⟩ = some (.string ⟨#[114, 117, 108, 101, 115]⟩) ∧ W.cell? ⟨b, 1, none⟩ = some (.iface 65 (.agg #[.int .i64 10, .int .i64 0])) ∧ Below w.heap.size w W) (first | exact hS)
    (first | (with_reducible refine (gfault_text 0 _).mono ?_; rintro ev w3 ⟨rfl, hb⟩; replace hS := gheldK hl hb hS; clear hb))
  go_wp2
  go_ret
  exact ⟨rfl, hS.2.2⟩
end Go.Proofs.YtbhejkjgebhpoaaDoor
