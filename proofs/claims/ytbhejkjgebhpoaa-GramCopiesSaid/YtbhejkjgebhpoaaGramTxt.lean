/- The text of the error that Check makes of a bad rule's name; the example grammar; the reference's Small. -/
import Derived.Test.YtbhejkjgebhpoaaGramClone
import Derived.Test.YtbhejkjgebhpoaaGramChk
import Derived.Test.YtbhejkjgebhpoaaGramRef
import Derived.Deep.RegionHeld3
import Derived.Conc.MuLone
namespace Go.Proofs.Ytbhejkjgebhpoaa
open Go.RowKit
set_option maxRecDepth 100000 in
theorem itoa_ten (w : World) : Calls Try.prog 65 #[.int .i64 10] w fun ev w' => ev = .returned (.string ⟨#[49, 48]⟩) ∧ w' = w := by
  go_enter Try.func65, Try.ntmps65
  go_wp2
  go_ret
  exact ⟨by kernel_rfl, rfl⟩
theorem gcode_text (w : World) : Calls Try.prog 64 #[.int .i64 10] w fun ev w' => ev = .returned (.string ⟨#[101, 114, 114, 111, 114, 32, 49, 48]⟩) ∧ Below w.heap.size w w' := by
  go_enter Try.func64, Try.ntmps64
  go_wp2_with (go_at_call 65; (with_reducible refine (itoa_ten _).mono ?_); rintro ev w1 ⟨rfl, hw⟩; obtain rfl := hw.symm; clear hw)
  go_ret
  exact ⟨by kernel_rfl, Below.refl _ _⟩
theorem gfault_text (p : Int) (w : World) : Calls Try.prog 80 #[.agg #[.int .i64 10, .int .i64 p]] w fun ev w' => ev = .returned (.string ⟨#[101, 114, 114, 111, 114, 32, 49, 48]⟩) ∧ Below w.heap.size w w' := by
  go_enter Try.func80, Try.ntmps80
  go_wp2_with (go_at_call 64; (with_reducible refine (gcode_text _).mono ?_); rintro ev w1 ⟨rfl, hb⟩; have HB := Lib.hid ((one_new w _).trans (hb.mono (one_new w _).size)); clear hb)
  go_ret
  exact ⟨rfl, HB.out⟩
theorem gm_fault (c p : Int) (w : World) : (Go.method 248 74 (.agg #[.int .i64 c, .int .i64 p]) "Error").run Try.prog w = .ok (80, .agg #[.int .i64 c, .int .i64 p]) w := by kernel_rfl
theorem gn_fault (c p : Int) (w : World) : (nilAhead 248 74 (.agg #[.int .i64 c, .int .i64 p]) "Error").run Try.prog w = .ok (some false) w := by kernel_rfl
theorem gm_within (b : Nat) (w : World) : (Go.method 248 70 (.pointer (some ⟨b, 0, none⟩)) "Error").run Try.prog w = .ok (79, .pointer (some ⟨b, 0, none⟩)) w := by kernel_rfl
theorem gn_within (b : Nat) (w : World) : (nilAhead 248 70 (.pointer (some ⟨b, 0, none⟩)) "Error").run Try.prog w = .ok (some false) w := by kernel_rfl
theorem ge_fault (args : Array Value) (w : World) : (callFunc 80 args).run Try.prog w = .ok (.enter 80 args) w := MuLone.run_callFunc_enter Try.func80 (by kernel_rfl) rfl args w
theorem ge_within (args : Array Value) (w : World) : (callFunc 79 args).run Try.prog w = .ok (.enter 79 args) w := MuLone.run_callFunc_enter Try.func79 (by kernel_rfl) rfl args w
theorem gheldK {w W W1 : World} {b : Nat} {x y : Value} (hl : b < w.heap.size) (hb : Below W.heap.size W W1) (h : W.cell? ⟨b, 0, none⟩ = some x ∧ W.cell? ⟨b, 1, none⟩ = some y ∧ Below w.heap.size w W) :
    W1.cell? ⟨b, 0, none⟩ = some x ∧ W1.cell? ⟨b, 1, none⟩ = some y ∧ Below w.heap.size w W1 := by
  have hz := h.2.2.size
  exact ⟨by rw [(bcell hb).1 _ _ (by omega)]; exact h.1, by rw [(bcell hb).1 _ _ (by omega)]; exact h.2.1, h.2.2.trans (hb.mono hz)⟩
def badText : ByteArray := ⟨#[114, 117, 108, 101, 32, 114, 117, 108, 101, 115, 58, 32, 101, 114, 114, 111, 114, 32, 49, 48]⟩
set_option maxHeartbeats 1000000 in
theorem gwithin_text (b : Nat) (w : World) (h0 : w.cell? ⟨b, 0, none⟩ = some (.string sRules)) (h1 : w.cell? ⟨b, 1, none⟩ = some (.iface 74 (.agg #[.int .i64 10, .int .i64 0]))) :
    Calls Try.prog 79 #[.pointer (some ⟨b, 0, none⟩)] w fun ev w' => ev = .returned (.string badText) ∧ Below w.heap.size w w' := by
  have hl := lt_of_cell h0
  have me := gm_fault 10 0
  have ee := ge_fault
  have ne := gn_fault 10 0
  have k1 : ∀ w, (Op.stringOp .add ⟨#[114, 117, 108, 101, 32]⟩ ⟨#[114, 117, 108, 101, 115]⟩).run Try.prog w = .ok (.string ⟨#[114, 117, 108, 101, 32, 114, 117, 108, 101, 115]⟩) w := fun w => by kernel_rfl
  have k2 : ∀ w, (Op.stringOp .add ⟨#[114, 117, 108, 101, 32, 114, 117, 108, 101, 115]⟩ ⟨#[58, 32]⟩).run Try.prog w = .ok (.string ⟨#[114, 117, 108, 101, 32, 114, 117, 108, 101, 115, 58, 32]⟩) w := fun w => by kernel_rfl
  have k3 : ∀ w, (Op.stringOp .add ⟨#[114, 117, 108, 101, 32, 114, 117, 108, 101, 115, 58, 32]⟩ ⟨#[101, 114, 114, 111, 114, 32, 49, 48]⟩).run Try.prog w = .ok (.string ⟨#[114, 117, 108, 101, 32, 114, 117, 108, 101, 115, 58, 32, 101, 114, 114, 111, 114, 32, 49, 48]⟩) w := fun w => by kernel_rfl
  go_enter Try.func79, Try.ntmps79
  go_wp2
  have hS : w.drew.cell? ⟨b, 0, none⟩ = some (.string ⟨#[114, 117, 108, 101, 115]⟩) ∧ w.drew.cell? ⟨b, 1, none⟩ = some (.iface 74 (.agg #[.int .i64 10, .int .i64 0])) ∧ Below w.heap.size w w.drew := ⟨h0, h1, (Below.refl _ _).drew⟩
  clear h0 h1
  go_region_held3 (fun W => W.cell? ⟨b, 0, none⟩ = some (.string ⟨#[114, 117, 108, 101, 115]⟩) ∧ W.cell? ⟨b, 1, none⟩ = some (.iface 74 (.agg #[.int .i64 10, .int .i64 0])) ∧ Below w.heap.size w W) (first | exact hS)
    (first | (with_reducible refine (gfault_text 0 _).mono ?_; rintro ev w3 ⟨rfl, hb⟩; replace hS := gheldK hl hb hS; clear hb))
  go_wp2
  go_ret
  exact ⟨rfl, hS.2.2⟩
theorem rsmall_any (rv nv : Value) (rs : List PR) (ns : List PN) (w : World) (hR : RulesIn w rv rs) (hN : NodesAt w nv ns) :
    Calls Try.prog 7 #[.agg #[rv, nv]] w fun e w' => e = .returned (.bool (fewB rs ns && okB (chkL rs ns))) ∧ Below w.heap.size w w' := by
  have HF := Lib.hid (fun (o : Obj) => few_any rv nv rs ns (w.alloc o) (hR.kept (one_new w o) (Nat.le_refl _)) (hN.kept (one_new w o) (Nat.le_refl _)))
  cases hf : fewB rs ns with
  | false =>
    rw [hf] at HF
    obtain ⟨-, ra, rc, rfl, -⟩ := hR
    obtain ⟨-, na, nc, rfl, -⟩ := hN
    clear hf
    go_enter Try.func7, Try.ntmps7
    go_wp2_with (go_at_call 14; (with_reducible refine (HF.out _).mono ?_); rintro e w5 ⟨rfl, hb⟩; have HW := Lib.hid ((one_new w _).trans (hb.mono (one_new w _).size)); clear hb)
    go_ret
    exact ⟨rfl, HW.out⟩
  | true =>
    rw [hf] at HF
    have hnm : ∀ r, r ∈ rs → r.name.size ≤ 2000000 := fun r hr => by have := (fewB_yes hf).1 r hr; omega
    have HV := Lib.hid (fun (W : World) (hb : Below w.heap.size w W) => valid_any rv nv rs ns W (hR.kept hb (Nat.le_refl _)) (hN.kept hb (Nat.le_refl _)) hnm)
    obtain ⟨-, ra, rc, rfl, -⟩ := hR
    obtain ⟨-, na, nc, rfl, -⟩ := hN
    generalize okB (chkL rs ns) = c at *
    clear hf hnm
    go_enter Try.func7, Try.ntmps7
    go_wp2_with (first
      | (go_at_call 14; (with_reducible refine (HF.out _).mono ?_); rintro e w5 ⟨rfl, hb⟩; have HW := Lib.hid ((one_new w _).trans (hb.mono (one_new w _).size)); have hb2 := (one_new w (.cells #[.slice ra rs.length rc, .slice na ns.length nc] 25)); have b0 := (bcell hb).1 w.heap.size 0 (by simp); have b1 := (bcell hb).1 w.heap.size 1 (by simp); simp at b0 b1; clear hb hb2)
      | (go_at_call 21; (with_reducible refine (HV.out _ HW.out).mono ?_); rintro e w6 ⟨rfl, hb⟩; replace HW := Lib.hid (HW.out.trans (hb.mono HW.out.size)); clear hb))
    go_ret
    exact ⟨rfl, HW.out⟩
end Go.Proofs.Ytbhejkjgebhpoaa
