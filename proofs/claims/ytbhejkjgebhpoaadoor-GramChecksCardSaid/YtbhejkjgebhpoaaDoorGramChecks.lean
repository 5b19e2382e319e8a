/- The walk of the law GramChecks. -/
import Derived.Test.YtbhejkjgebhpoaaDoorGramAwake
import Derived.Test.YtbhejkjgebhpoaaDoorFaults
namespace Go.Proofs.YtbhejkjgebhpoaaDoor
open Go.RowKit
/-- A call that holds in every world behind w. -/
def Then (f : Nat) (g : Value) (w : World) (P : World → Ending → World → Prop) : Prop := ∀ W, Below w.heap.size w W → Calls Tryd.prog f #[g] W (P W)
theorem kept_cell {w W : World} {b o : Nat} {v : Value} (h : w.cell? ⟨b, o, none⟩ = some v) (hb : Below w.heap.size w W) : W.cell? ⟨b, o, none⟩ = some v := by
  rw [(bcell hb).1 b o (lt_of_cell h)]; exact h
set_option maxHeartbeats 8000000 in
set_option maxRecDepth 100000 in
theorem checks_few (hA : GramAwake) (ra na : Option Addr) (rn rc nn nc : Nat) (w : World) (hF : Then 6 (.agg #[.slice ra rn rc, .slice na nn nc]) w (fun W e w' => e = .returned (.bool false) ∧ Below W.heap.size W w')) :
    Calls Tryd.prog 3 #[.agg #[.slice ra rn rc, .slice na nn nc]] w fun e w' => e = .returned (.bool true) ∧ Below w.heap.size w w' := by
  unfold GramAwake at hA
  unfold Then at hF
  have HA := Lib.hid hA
  have HF := Lib.hid hF
  clear hA hF
  go_enter Tryd.func3, Tryd.ntmps3
  go_upto_region 2 with (first
    | (go_at_call 5; (with_reducible refine (HA.out _).mono ?_); rintro e w2 ⟨rfl, hb⟩; have HW := Lib.hid ((one_new w _).trans (hb.mono (one_new w _).size)); have b0 := (bcell hb).1 w.heap.size 0 (by simp); have b1 := (bcell hb).1 w.heap.size 1 (by simp); simp at b0 b1; clear hb)
    | (go_at_call 6; (with_reducible refine (HF.out _ HW.out).mono ?_); rintro e w3 ⟨rfl, hb⟩; replace HW := Lib.hid (HW.out.trans (hb.mono HW.out.size)); clear hb))
  go_wp2_with (go_at_call 5; (with_reducible refine (HA.out _).mono ?_); rintro e w4 ⟨rfl, hb⟩; replace HW := Lib.hid (HW.out.trans (hb.mono HW.out.size)); clear hb)
  go_ret
  exact ⟨rfl, HW.out⟩
set_option maxHeartbeats 8000000 in
set_option maxRecDepth 100000 in
theorem checks_ok (hA : GramAwake) (ra na : Option Addr) (rn rc nn nc : Nat) (w : World) (hF : Then 6 (.agg #[.slice ra rn rc, .slice na nn nc]) w (fun W e w' => e = .returned (.bool true) ∧ Below W.heap.size W w'))
    (hC : Then 7 (.agg #[.slice ra rn rc, .slice na nn nc]) w (fun W e w' => e = .returned .nilIface ∧ Below W.heap.size W w'))
    (hR : Then 8 (.agg #[.slice ra rn rc, .slice na nn nc]) w (fun W e w' => e = .returned (.tuple #[.string ⟨#[]⟩, .int .i64 0, .int .i64 0]) ∧ Below W.heap.size W w')) :
    Calls Tryd.prog 3 #[.agg #[.slice ra rn rc, .slice na nn nc]] w fun e w' => e = .returned (.bool true) ∧ Below w.heap.size w w' := by
  unfold GramAwake at hA
  unfold Then at hF hC hR
  have HA := Lib.hid hA
  have HF := Lib.hid hF
  have HC := Lib.hid hC
  have HR := Lib.hid hR
  clear hA hF hC hR
  go_enter Tryd.func3, Tryd.ntmps3
  go_wp2_with (first
    | (go_at_call 5; (with_reducible refine (HA.out _).mono ?_); rintro e w2 ⟨rfl, hb⟩; have HW := Lib.hid ((one_new w _).trans (hb.mono (one_new w _).size)); have b0 := (bcell hb).1 w.heap.size 0 (by simp); have b1 := (bcell hb).1 w.heap.size 1 (by simp); simp at b0 b1; clear hb)
    | (go_at_call 6; (with_reducible refine (HF.out _ HW.out).mono ?_); rintro e w3 ⟨rfl, hb⟩; replace HW := Lib.hid (HW.out.trans (hb.mono HW.out.size)); have d0 := (bcell hb).1 _ 0 (lt_of_cell b0); have d1 := (bcell hb).1 _ 1 (lt_of_cell b1); rw [b0] at d0; rw [b1] at d1; clear hb b0 b1)
    | (go_at_call 7; (with_reducible refine (HC.out _ HW.out).mono ?_); rintro e w4 ⟨rfl, hb⟩; replace HW := Lib.hid (HW.out.trans (hb.mono HW.out.size)); have e0 := (bcell hb).1 _ 0 (lt_of_cell d0); have e1 := (bcell hb).1 _ 1 (lt_of_cell d1); rw [d0] at e0; rw [d1] at e1; clear hb d0 d1)
    | (go_at_call 8; (with_reducible refine (HR.out _ HW.out).mono ?_); rintro e w5 ⟨rfl, hb⟩; replace HW := Lib.hid (HW.out.trans (hb.mono HW.out.size)); clear hb e0 e1))
  go_ret
  exact ⟨rfl, HW.out⟩
set_option maxHeartbeats 8000000 in
set_option maxRecDepth 100000 in
theorem checks_order (hA : GramAwake) (ra na : Option Addr) (rn rc nn nc : Nat) (w : World) (hF : Then 6 (.agg #[.slice ra rn rc, .slice na nn nc]) w (fun W e w' => e = .returned (.bool true) ∧ Below W.heap.size W w'))
    (hC : Then 7 (.agg #[.slice ra rn rc, .slice na nn nc]) w (fun W e w' => e = .returned (.iface 33 (.int .i64 10)) ∧ Below W.heap.size W w'))
    (hR : Then 8 (.agg #[.slice ra rn rc, .slice na nn nc]) w (fun W e w' => e = .returned (.tuple #[.string ⟨#[]⟩, .int .i64 10, .int .i64 0]) ∧ Below W.heap.size W w'))
    (hg : w.cell? ⟨0, 0, none⟩ = some (rt 29)) :
    Calls Tryd.prog 3 #[.agg #[.slice ra rn rc, .slice na nn nc]] w fun e w' => e = .returned (.bool true) ∧ Below w.heap.size w w' := by
  unfold GramAwake at hA
  unfold Then at hF hC hR
  have K1 := Lib.hid (fun (W : World) (hb : Below w.heap.size w W) => Code_some (.code 10) 10 W rfl trivial (kept_cell hg hb))
  have K2 := Lib.hid (fun (W : World) (hb : Below w.heap.size w W) => Rule_none (.code 10) W rfl trivial (kept_cell hg hb))
  have K3 := Lib.hid (fun (W : World) (hb : Below w.heap.size w W) => At_none (.code 10) W rfl trivial (kept_cell hg hb))
  simp only [Err.val] at K1 K2 K3
  have e1 := eg_val (.code 10)
  have e2 := eq_val (.code 10)
  simp only [Err.val] at e1 e2
  have HA := Lib.hid hA
  have HF := Lib.hid hF
  have HC := Lib.hid hC
  have HR := Lib.hid hR
  clear hA hF hC hR
  go_enter Tryd.func3, Tryd.ntmps3
  go_wp2_with (first
    | (go_at_call 5; (with_reducible refine (HA.out _).mono ?_); rintro e w2 ⟨rfl, hb⟩; have HW := Lib.hid ((one_new w _).trans (hb.mono (one_new w _).size)); have b0 := (bcell hb).1 w.heap.size 0 (by simp); have b1 := (bcell hb).1 w.heap.size 1 (by simp); simp at b0 b1; clear hb)
    | (go_at_call 6; (with_reducible refine (HF.out _ HW.out).mono ?_); rintro e w3 ⟨rfl, hb⟩; replace HW := Lib.hid (HW.out.trans (hb.mono HW.out.size)); have d0 := (bcell hb).1 _ 0 (lt_of_cell b0); have d1 := (bcell hb).1 _ 1 (lt_of_cell b1); rw [b0] at d0; rw [b1] at d1; clear hb b0 b1)
    | (go_at_call 7; (with_reducible refine (HC.out _ HW.out).mono ?_); rintro e w4 ⟨rfl, hb⟩; replace HW := Lib.hid (HW.out.trans (hb.mono HW.out.size)); have e0 := (bcell hb).1 _ 0 (lt_of_cell d0); have e1 := (bcell hb).1 _ 1 (lt_of_cell d1); rw [d0] at e0; rw [d1] at e1; clear hb d0 d1)
    | (go_at_call 8; (with_reducible refine (HR.out _ HW.out).mono ?_); rintro e w5 ⟨rfl, hb⟩; replace HW := Lib.hid (HW.out.trans (hb.mono HW.out.size)); clear hb e0 e1)
    | (go_at_call 9; (with_reducible refine (K1.out _ HW.out).mono ?_); rintro e w6 ⟨rfl, hb⟩; replace HW := Lib.hid (HW.out.trans (hb.mono HW.out.size)); clear hb)
    | (go_at_call 10; (with_reducible refine (K2.out _ HW.out).mono ?_); rintro e w7 ⟨rfl, hb⟩; replace HW := Lib.hid (HW.out.trans (hb.mono HW.out.size)); clear hb)
    | (go_at_call 11; (with_reducible refine (K3.out _ HW.out).mono ?_); rintro e w8 ⟨rfl, hb⟩; replace HW := Lib.hid (HW.out.trans (hb.mono HW.out.size)); clear hb))
  go_ret
  exact ⟨rfl, HW.out⟩
set_option maxHeartbeats 8000000 in
set_option maxRecDepth 100000 in
theorem checks_part (part : ByteArray) (c p : Int) (hc : (c == 0) = false) (hp : (part.toList != (⟨#[]⟩ : ByteArray).toList) = true) (hA : GramAwake) (ra na : Option Addr) (rn rc nn nc : Nat) (w : World) (hF : Then 6 (.agg #[.slice ra rn rc, .slice na nn nc]) w (fun W e w' => e = .returned (.bool true) ∧ Below W.heap.size W w'))
    (hC : Then 7 (.agg #[.slice ra rn rc, .slice na nn nc]) w (fun W => PartErr part c p W))
    (hR : Then 8 (.agg #[.slice ra rn rc, .slice na nn nc]) w (fun W e w' => e = .returned (.tuple #[.string part, .int .i64 c, .int .i64 p]) ∧ Below W.heap.size W w'))
    (hg : w.cell? ⟨0, 0, none⟩ = some (rt 29)) :
    Calls Tryd.prog 3 #[.agg #[.slice ra rn rc, .slice na nn nc]] w fun e w' => e = .returned (.bool true) ∧ Below w.heap.size w w' := by
  unfold GramAwake at hA
  unfold Then PartErr at hC
  unfold Then at hF hR
  have K1 := Lib.hid (fun (W : World) (b : Nat) (hi : (Err.within b part (.fault c p)).In W) (hb : Below w.heap.size w W) => Code_some (.within b part (.fault c p)) c W rfl hi (kept_cell hg hb))
  have K2 := Lib.hid (fun (W : World) (b : Nat) (hi : (Err.within b part (.fault c p)).In W) (hb : Below w.heap.size w W) => Rule_within b part (.fault c p) W hi (kept_cell hg hb))
  have K3 := Lib.hid (fun (W : World) (b : Nat) (hi : (Err.within b part (.fault c p)).In W) (hb : Below w.heap.size w W) => At_some (.within b part (.fault c p)) c p W rfl hi (kept_cell hg hb))
  simp only [Err.val] at K1 K3
  have HA := Lib.hid hA
  have HF := Lib.hid hF
  have HC := Lib.hid hC
  have HR := Lib.hid hR
  have qc : (c == c) = true := by simp
  have qp : (p == p) = true := by simp
  have qs : (part.toList == part.toList) = true := by simp
  have hp0 : (⟨#[]⟩ : ByteArray).toList = [] := by rw [ByteArray.toList_eq]
  have hp2 : (part.toList != []) = true := by rw [← hp0]; exact hp
  have hp3 : (part.toList == []) = false := by
    cases h : (part.toList == []) with
    | false => rfl
    | true => unfold bne at hp2; rw [h] at hp2; cases hp2
  have hp4 : (part.toList == (⟨#[]⟩ : ByteArray).toList) = false := by rw [hp0]; exact hp3
  clear hp0
  clear hA hF hC hR
  go_enter Tryd.func3, Tryd.ntmps3
  go_wp2_with (first
    | (go_at_call 5; (with_reducible refine (HA.out _).mono ?_); rintro e w2 ⟨rfl, hb⟩; have HW := Lib.hid ((one_new w _).trans (hb.mono (one_new w _).size)); have b0 := (bcell hb).1 w.heap.size 0 (by simp); have b1 := (bcell hb).1 w.heap.size 1 (by simp); simp at b0 b1; clear hb)
    | (go_at_call 6; (with_reducible refine (HF.out _ HW.out).mono ?_); rintro e w3 ⟨rfl, hb⟩; replace HW := Lib.hid (HW.out.trans (hb.mono HW.out.size)); have d0 := (bcell hb).1 _ 0 (lt_of_cell b0); have d1 := (bcell hb).1 _ 1 (lt_of_cell b1); rw [b0] at d0; rw [b1] at d1; clear hb b0 b1)
    | (go_at_call 7; (with_reducible refine (HC.out _ HW.out).mono ?_); rintro e w4 ⟨⟨b, rfl, hi⟩, hb⟩; have HI := Lib.hid hi; replace HW := Lib.hid (HW.out.trans (hb.mono HW.out.size)); have e0 := (bcell hb).1 _ 0 (lt_of_cell d0); have e1 := (bcell hb).1 _ 1 (lt_of_cell d1); rw [d0] at e0; rw [d1] at e1; clear hb d0 d1 hi)
    | (go_at_call 8; (with_reducible refine (HR.out _ HW.out).mono ?_); rintro e w5 ⟨rfl, hb⟩; replace HW := Lib.hid (HW.out.trans (hb.mono HW.out.size)); replace HI := Lib.hid (HI.out.kept hb (Nat.le_refl _)); clear hb e0 e1)
    | (go_at_call 9; (with_reducible refine (K1.out _ _ HI.out HW.out).mono ?_); rintro e w6 ⟨rfl, hb⟩; replace HW := Lib.hid (HW.out.trans (hb.mono HW.out.size)); replace HI := Lib.hid (HI.out.kept hb (Nat.le_refl _)); clear hb)
    | (go_at_call 10; (with_reducible refine (K2.out _ _ HI.out HW.out).mono ?_); rintro e w7 ⟨rfl, hb⟩; replace HW := Lib.hid (HW.out.trans (hb.mono HW.out.size)); replace HI := Lib.hid (HI.out.kept hb (Nat.le_refl _)); clear hb)
    | (go_at_call 11; (with_reducible refine (K3.out _ _ HI.out HW.out).mono ?_); rintro e w8 ⟨rfl, hb⟩; replace HW := Lib.hid (HW.out.trans (hb.mono HW.out.size)); clear hb HI))
  go_ret
  exact ⟨rfl, HW.out⟩
theorem checks_any (hA : GramAwake) (rv nv : Value) (rs : List PR) (ns : List PN) (w : World) (hR : RulesIn w rv rs) (hN : NodesAt w nv ns) (hg : w.cell? ⟨0, 0, none⟩ = some (rt 29)) :
    Calls Tryd.prog 3 #[.agg #[rv, nv]] w fun e w' => e = .returned (.bool true) ∧ Below w.heap.size w w' := by
  have hf : Then 6 (.agg #[rv, nv]) w (fun W e w' => e = .returned (.bool (fewB rs ns)) ∧ Below W.heap.size W w') := fun W hb => few_any rv nv rs ns W (hR.kept hb (Nat.le_refl _)) (hN.kept hb (Nat.le_refl _))
  cases hfw : fewB rs ns with
  | false =>
    rw [hfw] at hf
    obtain ⟨-, ra, rc, rfl, -⟩ := hR
    obtain ⟨-, na, nc, rfl, -⟩ := hN
    exact checks_few hA ra na rs.length rc ns.length nc w hf
  | true =>
    rw [hfw] at hf
    obtain ⟨hnm, -, hrl, hnl⟩ := fewB_yes hfw
    have hnm' : ∀ r, r ∈ rs → r.name.size ≤ 2000000 := fun r h => by have := hnm r h; omega
    have hC : Then 7 (.agg #[rv, nv]) w (fun W => ChkIs (chkL rs ns) W) := fun W hb => check_any rv nv rs ns W (hR.kept hb (Nat.le_refl _)) (hN.kept hb (Nat.le_refl _)) hnm'
    have hK : Then 8 (.agg #[rv, nv]) w (fun W => RChkIs (chkL rs ns) W) := fun W hb => rcheck_any rv nv rs ns W (hR.kept hb (Nat.le_refl _)) (hN.kept hb (Nat.le_refl _)) hnm'
    have hlg : chkL rs ns ≠ .large := by
      unfold chkL
      rw [if_neg (by omega)]
      repeat' split
      all_goals (intro h; cases h)
    obtain ⟨-, ra, rc, rfl, -⟩ := hR
    obtain ⟨-, na, nc, rfl, -⟩ := hN
    generalize chkL rs ns = c at *
    cases c with
    | ok => exact checks_ok hA ra na rs.length rc ns.length nc w hf hC hK
    | large => exact absurd rfl hlg
    | order => exact checks_order hA ra na rs.length rc ns.length nc w hf hC hK hg
    | rules i => exact checks_part sRules 10 i (by decide) (by decide +kernel) hA ra na rs.length rc ns.length nc w hf hC hK hg
    | nodes i => exact checks_part sNodes 10 i (by decide) (by decide +kernel) hA ra na rs.length rc ns.length nc w hf hC hK hg
    | deep i => exact checks_part sNodes 5 i (by decide) (by decide +kernel) hA ra na rs.length rc ns.length nc w hf hC hK hg
end Go.Proofs.YtbhejkjgebhpoaaDoor
