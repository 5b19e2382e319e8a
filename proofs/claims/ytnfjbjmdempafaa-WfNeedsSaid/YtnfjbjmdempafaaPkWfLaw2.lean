/- The law WfNeeds. Written by wip/gen/wflaws.py. -/
import Derived.Deep.RegionWith
import Derived.Deep.Cut
import Derived.Test.YtnfjbjmdempafaaPkWR
import Derived.Test.YtnfjbjmdempafaaPkWE
import Derived.Test.YtnfjbjmdempafaaPkFlowLaw0
namespace Go.Proofs.Ytnfjbjmdempafaa
open Go.RowKit
set_option maxHeartbeats 16000000 in
set_option maxRecDepth 100000 in
theorem law12_needs (rv nv : Value) (rs : List PR) (ns : List PN) (k0 : Nat) (hk0 : k0 ≤ 65535) (w : World) (hR : RulesIn w rv rs) (hN : NodesAt w nv ns) (hC : CapsAt w nv ns.length) :
    Calls Try.prog 4 #[.agg #[rv, nv], .int .u16 (k0 : Int)] w fun e w' => e = .returned (.bool true) ∧ Below w.heap.size w w' := by
  have HS := Lib.hid (fun (W : World) (hb : Below w.heap.size w W) => rsmall_any rv nv rs ns W (hR.kept hb (Nat.le_refl _)) (hN.kept hb (Nat.le_refl _)))
  obtain ⟨na, nc, rfl⟩ : ∃ na nc, nv = .slice na ns.length nc := by obtain ⟨-, na, nc, rfl, -⟩ := hN; exact ⟨na, nc, rfl⟩
  cases hsm : (fewB rs ns && okB (chkL rs ns)) with
  | false =>
    rw [hsm] at HS
    obtain ⟨-, ra, rc, rfl, -⟩ := hR
    clear hsm hN hC hk0
    go_enter Try.func4, Try.ntmps4
    go_upto_region 2 with (first
      | (go_at_call 7; (with_reducible refine (awake12_any _).mono ?_); rintro e w2 ⟨rfl, hb⟩; have HW := Lib.hid (bl_on (one_new w _) hb); have b0 := (bcell hb).1 w.heap.size 0 (by simp); have b1 := (bcell hb).1 w.heap.size 1 (by simp); simp at b0 b1; clear hb)
      | (go_at_call 8; (with_reducible refine (HS.out _ HW.out).mono ?_); rintro e w3 ⟨rfl, hb⟩; replace HW := Lib.hid (bl_on HW.out hb); clear hb b0 b1))
    go_wp2_with (go_at_call 7; (with_reducible refine (awake12_any _).mono ?_); rintro e w4 ⟨rfl, hb⟩; replace HW := Lib.hid (bl_on HW.out hb); clear hb)
    go_ret
    exact ⟨rfl, HW.out⟩
  | true =>
    obtain ⟨hO, hr0, -⟩ := small11 hsm
    have hs := hO.nl
    have hr0' : 0 < ns.length := by
      obtain ⟨x, hx⟩ : ∃ x, rs[0]? = some x := ⟨_, List.getElem?_eq_getElem hr0⟩
      have := root11 hsm hx
      omega
    have hkl : k0 % ns.length < ns.length := Nat.mod_lt _ hr0'
    obtain ⟨n, hn⟩ : ∃ n, ns[k0 % ns.length]? = some n := ⟨_, List.getElem?_eq_getElem hkl⟩
    have hrem : (k0 : Int).tmod (ns.length : Int) = ((k0 % ns.length : Nat) : Int) := by rw [Int.tmod_eq_emod_of_nonneg (by omega)]; first | rfl | exact (Int.natCast_emod _ _).symm | exact (Int.ofNat_emod _ _).symm
    have hmod : (k0 : Int) % (ns.length : Int) = ((k0 % ns.length : Nat) : Int) := by first | rfl | exact (Int.natCast_emod _ _).symm | exact (Int.ofNat_emod _ _).symm
    have hk6 : (k0 : Int) ≤ 65535 := by omega
    have hk7 : (0 : Int) ≤ (k0 : Int) := by omega
    have hNp : (0 : Int) < (ns.length : Int) := by omega
    have hNz : ((ns.length : Int) == 0) = false := ibeq_no (by omega)
    have hNz' : ¬ (ns.length : Int) = 0 := by omega
    rw [hsm] at HS
    have HQ := Lib.hid (needs_read hO hn)
    have HNd := Lib.hid (fun (W : World) (hb : Below w.heap.size w W) => wneedsF_any rv _ rs ns (k0 % ns.length) n W (hR.kept hb (Nat.le_refl _)) (hN.kept hb (Nat.le_refl _)) (hC.kept hN rfl hb) hO hn)
    have HRd := Lib.hid (fun (W : World) (hb : Below w.heap.size w W) => r12needs_any rv _ rs ns (k0 % ns.length) n W (hR.kept hb (Nat.le_refl _)) (hN.kept hb (Nat.le_refl _)) hO hn)
    have HOf := Lib.hid (fun (W : World) (hb : Below w.heap.size w W) => wof_any rv _ rs ns W (hR.kept hb (Nat.le_refl _)) (hN.kept hb (Nat.le_refl _)) (hC.kept hN rfl hb) hO)
    have HOK := Lib.hid hO
    obtain ⟨-, ra, rc, rfl, -⟩ := hR
    unfold NeedIs at HNd HRd
    unfold OfIs at HOf
    have hq60 := HQ.out.1
    generalize needN rs (lfp rs ns) n = q at *
    generalize hI : k0 % ns.length = I at *
    have I1 : (I : Int) < (ns.length : Int) := by omega
    clear hsm hN hC hO hn hr0 hr0' hI
    go_enter Try.func4, Try.ntmps4
    go_upto_region 3 with (first
      | (go_at_call 7; (with_reducible refine (awake12_any _).mono ?_); rintro e w2 ⟨rfl, hb⟩; have HW := Lib.hid (bl_on (one_new w _) hb); have HG := Lib.hid ((Bl.new w 25 #[.slice ra rs.length rc, .slice na ns.length nc]).below hb); have b0 : w2.cell? ⟨w.heap.size, 0, none⟩ = some (.slice ra rs.length rc) := HG.out.cell (o := 0) rfl; have b1 : w2.cell? ⟨w.heap.size, 1, none⟩ = some (.slice na ns.length nc) := HG.out.cell (o := 1) rfl; have lg := HG.out.lt; clear hb)
      | (go_at_call 8; (with_reducible refine (HS.out _ HW.out).mono ?_); rintro e w3 ⟨rfl, hb⟩; replace HW := Lib.hid (bl_on HW.out hb); replace HG := Lib.hid (HG.out.below hb); have d0 : w3.cell? ⟨w.heap.size, 0, none⟩ = some (.slice ra rs.length rc) := HG.out.cell (o := 0) rfl; have d1 : w3.cell? ⟨w.heap.size, 1, none⟩ = some (.slice na ns.length nc) := HG.out.cell (o := 1) rfl; have lg := HG.out.lt; clear hb b0 b1))
    clear HS
    go_upto_region 7 with (first
      | (go_at_call 13; (with_reducible refine (HNd.out _ HW.out).mono ?_); rintro e w4 ⟨a4, c4, rfl, ho, hb⟩; have HI4 := Lib.hid (IntsAt.of_own ho); have HW4 := Lib.hid (bl_on HW.out hb); have HG4 := Lib.hid (HG.out.below hb); have d0 : w4.cell? ⟨w.heap.size, 0, none⟩ = some (.slice ra rs.length rc) := HG4.out.cell (o := 0) rfl; have d1 : w4.cell? ⟨w.heap.size, 1, none⟩ = some (.slice na ns.length nc) := HG4.out.cell (o := 1) rfl; have lg := HG4.out.lt; clear hb ho)
      | (go_at_call 14; (with_reducible refine (HRd.out _ HW4.out).mono ?_); rintro e w5 ⟨a5, c5, rfl, ho, hb⟩; have HI5 := Lib.hid (IntsAt.of_own ho); have HJ5 := Lib.hid (HI4.out.kept hb (Nat.le_refl _)); have HW5 := Lib.hid (bl_on HW4.out hb); have HG5 := Lib.hid (HG4.out.below hb); clear hb ho)
      | (go_at_call 11; (with_reducible refine (eqI_same _ _ q _ (by unfold maxLen; omega) HJ5.out HI5.out).mono ?_); rintro e w6 ⟨rfl, hb⟩; have HI6 := Lib.hid (HJ5.out.kept hb (Nat.le_refl _)); have HW6 := Lib.hid (bl_on HW5.out hb); have HG6 := Lib.hid (HG5.out.below hb); have d0 : w6.cell? ⟨w.heap.size, 0, none⟩ = some (.slice ra rs.length rc) := HG6.out.cell (o := 0) rfl; have d1 : w6.cell? ⟨w.heap.size, 1, none⟩ = some (.slice na ns.length nc) := HG6.out.cell (o := 1) rfl; have lg := HG6.out.lt; clear hb))
    go_wp2_with (go_at_call 15; (with_reducible refine (HOf.out _ HW6.out).mono ?_); rintro e w7 ⟨rfl, hm, hb⟩; have HM := Lib.hid hm; have HI7 := Lib.hid (HI6.out.kept hb (Nat.le_refl _)); have HW7 := Lib.hid (bl_on HW6.out hb); have HG7 := Lib.hid (HG6.out.below hb); have d0 : w7.cell? ⟨w.heap.size, 0, none⟩ = some (.slice ra rs.length rc) := HG7.out.cell (o := 0) rfl; have d1 : w7.cell? ⟨w.heap.size, 1, none⟩ = some (.slice na ns.length nc) := HG7.out.cell (o := 1) rfl; have lg := HG7.out.lt; clear hb hm)
    go_loopw [8] (fun c wx => ∃ t : Nat, t ≤ q.length ∧ c = .int .i64 (t : Int) ∧ wx = w7) (fun c _ => q.length - (intOf c).toNat)
    case atStart => exact ⟨0, Nat.zero_le _, by first | rfl | trivial, by first | rfl | trivial⟩
    case round =>
      obtain ⟨t, ht, rfl, hwr⟩ := hrel
      obtain rfl := hwr.symm
      by_cases htl : t < q.length
      · have t1 : (t : Int) < (q.length : Int) := by omega
        obtain ⟨x, hx⟩ : ∃ x, q[t]? = some x := ⟨_, List.getElem?_eq_getElem htl⟩
        obtain ⟨j, rfl, hj, hwj⟩ := HQ.out.2.2 t x hx
        have hbI := wfL_at (rs := rs) hkl
        have hbJ := wfL_at (rs := rs) hj
        have himp : itG (needW rs ns (lfp rs ns)) (loopW ns (lfp rs ns)) (ns.length + 1) I = true → itG (needW rs ns (lfp rs ns)) (loopW ns (lfp rs ns)) (ns.length + 1) j = true := fun h => by
          rw [wfL_is HOK.out hkl] at h
          rw [wfL_is HOK.out hj]
          exact (WfG.iff.1 h).1 j (List.mem_of_getElem? hwj)
        generalize itG (needW rs ns (lfp rs ns)) (loopW ns (lfp rs ns)) (ns.length + 1) I = bI at *
        generalize itG (needW rs ns (lfp rs ns)) (loopW ns (lfp rs ns)) (ns.length + 1) j = bJ at *
        obtain ⟨ob, oo, e1, ox⟩ := HM.out.cell hbI
        obtain ⟨ob', oo', e2, oy⟩ := HM.out.cell hbJ
        cases e1
        cases e2
        rw [Nat.zero_add] at ox oy
        obtain ⟨rb, ro, rfl, rx⟩ := HI7.out.cell hx
        have l1 := lt_of_cell ox
        have l2 := lt_of_cell rx
        have j1 : (j : Int) < (ns.length : Int) := by omega
        have HX := Lib.hid himp
        clear hx hwj hbI hbJ himp
        cases bI with
        | false =>
          go_wp2
          go_roundw
          case rel => exact ⟨t + 1, by omega, by go_num, by first | rfl | trivial⟩
          case measure => simp [intOf]; omega
        | true =>
          rw [HX.out rfl] at oy
          go_wp2
          go_roundw
          case rel => exact ⟨t + 1, by omega, by go_num, by first | rfl | trivial⟩
          case measure => simp [intOf]; omega
      · obtain rfl : t = q.length := by omega
        have t1 : ¬ (q.length : Int) < (q.length : Int) := by omega
        go_wp2
        go_ret
        exact ⟨rfl, HW7.out⟩
end Go.Proofs.Ytnfjbjmdempafaa
