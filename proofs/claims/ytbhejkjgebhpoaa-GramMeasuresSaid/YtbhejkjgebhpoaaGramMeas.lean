/- The walk of the law GramMeasures. -/
import Derived.Test.YtbhejkjgebhpoaaGramLaws
namespace Go.Proofs.Ytbhejkjgebhpoaa
open Go.RowKit
theorem measK {n G B k : Nat} {x0 x1 x2 : Value} {w W W' : World} (hn : n ≤ w.heap.size) (hb : Below W.heap.size W W') (h : W.cell? ⟨G, 0, none⟩ = some x0 ∧ W.cell? ⟨G, 1, none⟩ = some x1 ∧ W.cell? ⟨B, k, none⟩ = some x2 ∧ Below n w W) : W'.cell? ⟨G, 0, none⟩ = some x0 ∧ W'.cell? ⟨G, 1, none⟩ = some x1 ∧ W'.cell? ⟨B, k, none⟩ = some x2 ∧ Below n w W' := by
  obtain ⟨h0, h1, h3, h2⟩ := h
  have hc := (bcell hb).1
  exact ⟨by rw [hc _ _ (lt_of_cell h0)]; exact h0, by rw [hc _ _ (lt_of_cell h1)]; exact h1, by rw [hc _ _ (lt_of_cell h3)]; exact h3, h2.trans (hb.mono (Nat.le_trans hn h2.size))⟩
set_option maxHeartbeats 8000000 in
set_option maxRecDepth 100000 in
theorem measures_any (hA : GramAwake) (rv nv : Value) (rs : List PR) (ns : List PN) (w : World) (hR : RulesIn w rv rs) (hN : NodesAt w nv ns) :
    Calls Try.prog 3 #[.agg #[rv, nv]] w fun e w' => e = .returned (.bool true) ∧ Below w.heap.size w w' := by
  unfold GramAwake at hA
  have HA := Lib.hid hA
  have HS := Lib.hid (fun (W : World) (hb : Below w.heap.size w W) => rsmall_any rv nv rs ns W (hR.kept hb (Nat.le_refl _)) (hN.kept hb (Nat.le_refl _)))
  have HR := Lib.hid hR
  have HN := Lib.hid hN
  clear hA
  cases hsm : (fewB rs ns && okB (chkL rs ns)) with
  | false =>
    rw [hsm] at HS
    obtain ⟨-, ra, rc, rfl, -⟩ := hR
    obtain ⟨-, na, nc, rfl, -⟩ := hN
    clear hsm
    go_enter Try.func3, Try.ntmps3
    go_upto_region 2 with (first
      | (go_at_call 6; (with_reducible refine (HA.out _).mono ?_); rintro e w2 ⟨rfl, hb⟩; have HW := Lib.hid ((one_new w _).trans (hb.mono (one_new w _).size)); have b0 := (bcell hb).1 w.heap.size 0 (by simp); have b1 := (bcell hb).1 w.heap.size 1 (by simp); simp at b0 b1; clear hb)
      | (go_at_call 7; (with_reducible refine (HS.out _ HW.out).mono ?_); rintro e w3 ⟨rfl, hb⟩; replace HW := Lib.hid (HW.out.trans (hb.mono HW.out.size)); clear hb))
    go_wp2_with (go_at_call 6; (with_reducible refine (HA.out _).mono ?_); rintro e w4 ⟨rfl, hb⟩; replace HW := Lib.hid (HW.out.trans (hb.mono HW.out.size)); clear hb)
    go_ret
    exact ⟨rfl, HW.out⟩
  | true =>
    have hfw : fewB rs ns = true := by rw [Bool.and_eq_true] at hsm; exact hsm.1
    have hok : chkL rs ns = .ok := okB_ok (by rw [Bool.and_eq_true] at hsm; exact hsm.2)
    rw [hsm] at HS
    obtain ⟨-, hkid, hrl, hnl⟩ := fewB_yes hfw
    obtain ⟨-, -, hr0, -, -, hord, hdep⟩ := chkL_ok hok
    have hex := ordR_ex hord
    have HEX := Lib.hid hex
    have HORD := Lib.hid hord
    have HDEP := Lib.hid hdep
    have HFI := Lib.hid (fun (W : World) (hb : Below w.heap.size w W) (ra : Option Addr) (rn rc j : Nat) (hj : j < ns.length) => first_any ra rn rc nv ns j W (HN.out.kept hb (Nat.le_refl _)) hj (hex (j : Int) (by omega) (by omega)))
    have HOW := Lib.hid (fun (W : World) (hb : Below w.heap.size w W) (na : Option Addr) (nn nc : Nat) (x : Int) => owner_any rv na nn nc rs x W (by omega) (HR.out.kept hb (Nat.le_refl _)) (-1) (ordR_up rs (-1) hord))
    have HRO := Lib.hid (fun (W : World) (hb : Below w.heap.size w W) (na : Option Addr) (nn nc j : Nat) (hj : j < ns.length) => rowner_any rv na nn nc rs (j : Int) W (HR.out.kept hb (Nat.le_refl _)) (-1) (ordR_up rs (-1) hord) (ownL_ord rs (-1) (by omega) hord (j : Int) (by omega) (by omega)).1)
    obtain ⟨-, ra, rc, rfl, -⟩ := hR
    obtain ⟨-, na, nc, rfl, -⟩ := hN
    have HEX2 := Lib.hid (fun (W : World) (hb : Below w.heap.size w W) (j : Nat) (hj : j < ns.length) => expr_any ra na rs.length rc ns.length nc ns (by omega) (j : Int) (by omega) W (HN.out.kept hb (Nat.le_refl _)))
    have HDP := Lib.hid (fun (W : World) (hb : Below w.heap.size w W) (j : Nat) (hj : j < ns.length) => depth_nat ra na rs.length rc ns.length nc ns (by omega) hex.kids 205 j 205 W rfl (by omega) hj (HN.out.kept hb (Nat.le_refl _)))
    have HDS := Lib.hid (fun (W : World) (hb : Below w.heap.size w W) => depths_any ra rs.length rc _ ns W (HN.out.kept hb (Nat.le_refl _)) (by omega) hex.kids)
    have qz : ((ns.length : Int) != (ns.length : Int)) = false := by simp
    clear hsm hfw hok hkid hdep hex hord
    go_enter Try.func3, Try.ntmps3
    go_upto_region 6 with (first
      | (go_at_call 6; (with_reducible refine (HA.out _).mono ?_); rintro e w2 ⟨rfl, hb⟩; have HW := Lib.hid ((one_new w _).trans (hb.mono (one_new w _).size)); have b0 := (bcell hb).1 w.heap.size 0 (by simp); have b1 := (bcell hb).1 w.heap.size 1 (by simp); simp at b0 b1; clear hb)
      | (go_at_call 7; (with_reducible refine (HS.out _ HW.out).mono ?_); rintro e w3 ⟨rfl, hb⟩; replace HW := Lib.hid (HW.out.trans (hb.mono HW.out.size)); have d0 := (bcell hb).1 _ 0 (lt_of_cell b0); have d1 := (bcell hb).1 _ 1 (lt_of_cell b1); rw [b0] at d0; rw [b1] at d1; clear hb b0 b1)
      | (go_at_call 8; (with_reducible refine (HDS.out _ HW.out).mono ?_); rintro e w4 ⟨⟨B, cap, rfl, hB0, hB1, hnat⟩, hb⟩; replace HW := Lib.hid (HW.out.trans (hb.mono HW.out.size)); have e0 := (bcell hb).1 _ 0 (lt_of_cell d0); have e1 := (bcell hb).1 _ 1 (lt_of_cell d1); rw [d0] at e0; rw [d1] at e1; have HNAT := Lib.hid hnat; clear hb d0 d1 hnat))
    go_wp2
    go_loopw [4] (fun c wr => ∃ k : Nat, k ≤ ns.length ∧ c = .int .i64 k ∧ Below w.heap.size w wr ∧ Below w4.heap.size w4 wr ∧ wr.cell? ⟨w.heap.size, 0, none⟩ = some (.slice ra rs.length rc) ∧ wr.cell? ⟨w.heap.size, 1, none⟩ = some (.slice na ns.length nc)) (fun c _ => ns.length - (intOf c).toNat)
    case atStart => exact ⟨0, Nat.zero_le _, rfl, HW.out, Below.refl _ _, e0, e1⟩
    case round =>
      obtain ⟨k, hk, rfl, hbw, hb4, b0, b1⟩ := hrel
      have HW2 := Lib.hid hbw
      have HB4 := Lib.hid hb4
      clear hbw hb4 e0 e1 HW
      by_cases hlt : k < ns.length
      · have hd : wr.cell? ⟨B, k, none⟩ = some (.int .i64 (dpL ns k : Int)) := by rw [(bcell HB4.out).1 _ k hB1]; exact (HNAT.out k hlt).1
        have k1 : (k : Int) < (ns.length : Int) := by omega
        go_wp2
        obtain ⟨n0, hn0⟩ : ∃ n0, w.heap.size = n0 := ⟨_, rfl⟩
        have hnw : n0 ≤ w.heap.size := Nat.le_of_eq hn0.symm
        have HN0 := Lib.hid hn0
        have hxi := HEX.out (k : Int) (by omega) (by omega)
        have hli := exL_lt ns k hxi
        have hrd := rdF_is HEX.out.kids 205 (k : Int) (by omega) (by omega)
        rw [show (k : Int).toNat = k by omega] at hrd
        have hdk := HDEP.out k hlt
        have hrd2 : rdF ns 205 (k : Int) = dpL ns k := by omega
        have hC1 : ∀ W, Below n0 w W → Calls Try.prog 9 #[.agg #[.slice ra rs.length rc, .slice na ns.length nc], .int .i64 (k : Int)] W fun e w' => e = .returned (.int .i64 (exL ns k + 1)) ∧ Below W.heap.size W w' := fun W hW => HFI.out W (by rw [hn0]; exact hW) ra rs.length rc k hlt
        have hC2 : ∀ W, Below n0 w W → Calls Try.prog 10 #[.agg #[.slice ra rs.length rc, .slice na ns.length nc], .int .i64 (k : Int)] W fun e w' => e = .returned (.int .i64 (exL ns k)) ∧ Below W.heap.size W w' := fun W hW => HEX2.out W (by rw [hn0]; exact hW) k hlt
        have hC3 : ∀ W, Below n0 w W → Calls Try.prog 11 #[.agg #[.slice ra rs.length rc, .slice na ns.length nc], .int .i64 (k : Int), .int .i64 205] W fun e w' => e = .returned (.int .i64 (dpL ns k : Int)) ∧ Below W.heap.size W w' := fun W hW => by
          have := HDP.out W (by rw [hn0]; exact hW) k hlt
          rw [hrd2] at this; exact this
        have hC4 : ∀ W, Below n0 w W → Calls Try.prog 12 #[.agg #[.slice ra rs.length rc, .slice na ns.length nc], .int .i64 (k : Int)] W fun e w' => e = .returned (.int .i64 (ownL rs k : Int)) ∧ Below W.heap.size W w' := fun W hW => HOW.out W (by rw [hn0]; exact hW) na ns.length nc k
        have hC5 : ∀ W, Below n0 w W → Calls Try.prog 13 #[.agg #[.slice ra rs.length rc, .slice na ns.length nc], .int .i64 (k : Int)] W fun e w' => e = .returned (.int .i64 (ownL rs k : Int)) ∧ Below W.heap.size W w' := fun W hW => HRO.out W (by rw [hn0]; exact hW) na ns.length nc k hlt
        generalize exL ns k = x at *
        generalize ownL rs k = o at *
        generalize dpL ns k = d at *
        have ew : IntKind.i64.wrap (x + 1) = x + 1 := IntWalk.i64_in _ (by omega)
        have q1 : ((x + 1) != (x + 1)) = false := by simp
        have q2 : ((d : Int) != (d : Int)) = false := by simp
        have q3 : ((o : Int) != (o : Int)) = false := by simp
        have HC1 := Lib.hid hC1
        have HC2 := Lib.hid hC2
        have HC3 := Lib.hid hC3
        have HC4 := Lib.hid hC4
        have HC5 := Lib.hid hC5
        have x0 : -1 ≤ x := by omega
        have x1 : x ≤ 1000 := by omega
        have HH4 := Lib.hid (fun W (h : Below wr.heap.size wr W) => HB4.out.trans (h.mono HB4.out.size))
        obtain ⟨m0, hm0⟩ : ∃ m0, wr.heap.size = m0 := ⟨_, rfl⟩
        have HM0 := Lib.hid hm0
        have hmw : m0 ≤ wr.heap.size := Nat.le_of_eq hm0.symm
        have hWn : ∀ W, Below m0 wr W → Below n0 w W := fun W hW => by rw [← hn0]; exact HW2.out.trans ((by rw [hm0]; exact hW : Below wr.heap.size wr W).mono HW2.out.size)
        have HWN := Lib.hid hWn
        have hS : (fun W : World => W.cell? ⟨w.heap.size, 0, none⟩ = some (.slice ra rs.length rc) ∧ W.cell? ⟨w.heap.size, 1, none⟩ = some (.slice na ns.length nc) ∧ W.cell? ⟨B, k, none⟩ = some (.int .i64 (d : Int)) ∧ Below m0 wr W) wr.drew := ⟨b0, b1, hd, by rw [← hm0]; exact (Below.refl _ _).drew⟩
        clear hn0 hm0 hC1 hC2 hC3 hC4 hC5 b0 b1 hd hrd hrd2 hxi hli hWn
        dsimp only at hS
        go_region_held3 (fun W => W.cell? ⟨w.heap.size, 0, none⟩ = some (.slice ra rs.length rc) ∧ W.cell? ⟨w.heap.size, 1, none⟩ = some (.slice na ns.length nc) ∧ W.cell? ⟨B, k, none⟩ = some (.int .i64 (d : Int)) ∧ Below m0 wr W) (first | exact hS)
          (first
            | (go_at_call 9; with_reducible refine (HC1.out _ (HWN.out _ hS.2.2.2)).mono ?_; rintro ev w5 ⟨rfl, hb⟩; replace hS := measK hmw hb hS; clear hb)
            | (go_at_call 10; with_reducible refine (HC2.out _ (HWN.out _ hS.2.2.2)).mono ?_; rintro ev w5 ⟨rfl, hb⟩; replace hS := measK hmw hb hS; clear hb)
            | (go_at_call 11; with_reducible refine (HC3.out _ (HWN.out _ hS.2.2.2)).mono ?_; rintro ev w5 ⟨rfl, hb⟩; replace hS := measK hmw hb hS; clear hb)
            | (go_at_call 12; with_reducible refine (HC4.out _ (HWN.out _ hS.2.2.2)).mono ?_; rintro ev w5 ⟨rfl, hb⟩; replace hS := measK hmw hb hS; clear hb)
            | (go_at_call 13; with_reducible refine (HC5.out _ (HWN.out _ hS.2.2.2)).mono ?_; rintro ev w5 ⟨rfl, hb⟩; replace hS := measK hmw hb hS; clear hb))
        obtain ⟨b0, b1, -, hbf⟩ := hS
        have HBF := Lib.hid hbf
        clear hbf
        go_wp2
        go_roundw
        case rel => exact ⟨k + 1, by omega, by go_num, by rw [HN0.out]; exact HWN.out _ HBF.out, HH4.out _ (by rw [HM0.out]; exact HBF.out), b0, b1⟩
        case measure => simp [intOf]; omega
      · obtain rfl : k = ns.length := by omega
        have k1 : ¬ (ns.length : Int) < (ns.length : Int) := by omega
        go_wp2
        go_ret
        exact ⟨rfl, HW2.out⟩
end Go.Proofs.Ytbhejkjgebhpoaa
