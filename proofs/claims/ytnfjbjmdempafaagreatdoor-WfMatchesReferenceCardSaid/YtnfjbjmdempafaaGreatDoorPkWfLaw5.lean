/- The law WfMatchesReference. Written by wip/gen/wflaw5.py. -/
import Derived.Deep.RegionWith
import Derived.Deep.Cut
import Derived.Deep.RegionHeld3
import Derived.Test.YtnfjbjmdempafaaGreatDoorPkGramFew
import Derived.Test.YtnfjbjmdempafaaGreatDoorPkJ2
import Derived.Test.YtnfjbjmdempafaaGreatDoorPkWR
import Derived.Test.YtnfjbjmdempafaaGreatDoorPkWE
import Derived.Test.YtnfjbjmdempafaaGreatDoorPkFlowLaw0
namespace Go.Proofs.YtnfjbjmdempafaaGreatDoor
open Go.RowKit
theorem idxP_none {p : Nat → Bool} {N : Nat} (h : ∀ j, j < N → p j = false) : idxP p N = [] := by
  unfold idxP
  rw [List.filter_eq_nil_iff.2 fun x hx => by rw [h x (List.mem_range.1 hx)]; simp]; rfl
theorem idxP_head {p : Nat → Bool} : ∀ {N k : Nat}, k < N → p k = true → (∀ j, j < k → p j = false) → ∃ t, idxP p N = (k : Int) :: t
  | 0, k, h, _, _ => absurd h (Nat.not_lt_zero _)
  | N + 1, k, h, hk, hj => by
    by_cases e : k = N
    · subst e
      rw [idxP_yes hk, idxP_none hj]
      exact ⟨[], rfl⟩
    · obtain ⟨t, ht⟩ := idxP_head (N := N) (by omega) hk hj
      cases hp : p N with
      | true => rw [idxP_yes hp, ht]; exact ⟨_, rfl⟩
      | false => rw [idxP_no hp, ht]; exact ⟨_, rfl⟩
def headI (l : List Int) : Int := match l with | [] => -1 | x :: _ => x
set_option maxHeartbeats 8000000 in
theorem rfirst_any (rv nv : Value) (rs : List PR) (ns : List PN) (w : World) (hR : RulesIn w rv rs) (hN : NodesAt w nv ns) (hO : FlowOk rs ns) :
    Calls Tryz.prog 11 #[.agg #[rv, nv]] w fun e w' => e = .returned (.int .i64 (headI (badL rs ns))) ∧ Below w.heap.size w w' := by
  have hs := hO.nl
  have hone := Lib.hid (one_new w (.cells #[rv, nv] 25))
  have HOf := Lib.hid (r12of_any rv nv rs ns _ (hR.kept hone.out (Nat.le_refl _)) (hN.kept hone.out (Nat.le_refl _)) hO)
  obtain ⟨-, ra, rc, rfl, -⟩ := hR
  obtain ⟨-, na, nc, rfl, -⟩ := hN
  unfold RofIs at HOf
  have hml := mkL_len rs ns (ns.length + 1)
  have HBD : Hid (badL rs ns = idxP (fun i => decide ((mkL rs ns (ns.length + 1))[i]? = some false)) ns.length) := Lib.hid rfl
  generalize mkL rs ns (ns.length + 1) = l at *
  rw [← hml] at HBD
  have hl4 : l.length ≤ 400 := by omega
  clear hml
  go_enter Tryz.func11, Tryz.ntmps11
  go_wp2_with (go_at_call 6; (with_reducible refine HOf.out.mono ?_); rintro e w3 ⟨oa, oc, rfl, hm, hb⟩; have HM := Lib.hid hm; have HB := Lib.hid (bl_on hone.out hb); clear hb hm)
  go_loopw [4] (fun c wr => ∃ k : Nat, k ≤ l.length ∧ c = .int .i64 (k : Int) ∧ wr = w3 ∧ ∀ j, j < k → decide (l[j]? = some false) = false) (fun c _ => l.length - (intOf c).toNat)
  case atStart => exact ⟨0, Nat.zero_le _, by first | rfl | trivial, by first | rfl | trivial, fun j h => absurd h (Nat.not_lt_zero _)⟩
  case round =>
    obtain ⟨k, hk, rfl, hwr, hj⟩ := hrel
    obtain rfl := hwr.symm
    by_cases hlt : k < l.length
    · have k1 : (k : Int) < (l.length : Int) := by omega
      obtain ⟨b, hb⟩ : ∃ b, l[k]? = some b := ⟨_, List.getElem?_eq_getElem hlt⟩
      obtain ⟨ob, oo, rfl, ox⟩ := HM.out.cell hb
      have lo := lt_of_cell ox
      have HJ := Lib.hid hj
      have HBK := Lib.hid hb
      clear hj hb
      cases b with
      | false =>
        have HRES : Hid (headI (badL rs ns) = (k : Int)) := Lib.hid (by
          obtain ⟨t, ht⟩ := idxP_head (p := fun i => decide (l[i]? = some false)) hlt (decide_eq_true HBK.out) HJ.out
          rw [HBD.out, ht]; rfl)
        go_wp2
        go_ret
        exact ⟨by rw [HRES.out]; rfl, HB.out⟩
      | true =>
        go_wp2
        go_roundw
        case rel =>
          refine ⟨k + 1, by omega, by go_num, by first | rfl | trivial, fun j h => ?_⟩
          by_cases e : j = k
          · subst e; rw [HBK.out]; rfl
          · exact HJ.out j (by omega)
        case measure => simp [intOf]; omega
    · obtain rfl : k = l.length := by omega
      have k1 : ¬ (l.length : Int) < (l.length : Int) := by omega
      have HRES : Hid (headI (badL rs ns) = -1) := Lib.hid (by rw [HBD.out, idxP_none hj]; rfl)
      clear hj
      go_wp2
      go_ret
      exact ⟨by rw [HRES.out]; rfl, HB.out⟩
theorem law5K {rb ro rc nc ow n0 G : Nat} {na : Option Addr} {nm : ByteArray} {rs : List PR} {ns : List PN} {w W W' : World} (hn : n0 ≤ w.heap.size) (hb : Below W.heap.size W W') (h : W.cell? ⟨G, 0, none⟩ = some (.slice (some ⟨rb, ro, none⟩) rs.length rc) ∧ W.cell? ⟨G, 1, none⟩ = some (.slice na ns.length nc) ∧ W.cell? ⟨rb, ro + ow * 2, none⟩ = some (.string nm) ∧ Below n0 w W) : W'.cell? ⟨G, 0, none⟩ = some (.slice (some ⟨rb, ro, none⟩) rs.length rc) ∧ W'.cell? ⟨G, 1, none⟩ = some (.slice na ns.length nc) ∧ W'.cell? ⟨rb, ro + ow * 2, none⟩ = some (.string nm) ∧ Below n0 w W' := by
  obtain ⟨h0, h1, h2, hB⟩ := h
  have hk : ∀ {b o : Nat} {v : Value}, W.cell? ⟨b, o, none⟩ = some v → W'.cell? ⟨b, o, none⟩ = some v := fun h => by rw [(bcell hb).1 _ _ (lt_of_cell h)]; exact h
  exact ⟨hk h0, hk h1, hk h2, hB.trans (hb.mono (Nat.le_trans hn hB.size))⟩
set_option maxHeartbeats 16000000 in
set_option maxRecDepth 100000 in
theorem law12_matches (rv nv : Value) (rs : List PR) (ns : List PN) (w : World) (hR : RulesIn w rv rs) (hN : NodesAt w nv ns) (hC : CapsAt w nv ns.length) (hg : w.cell? ⟨0, 0, none⟩ = some (rt 33)) :
    Calls Tryz.prog 3 #[.agg #[rv, nv]] w fun e w' => e = .returned (.bool true) ∧ Below w.heap.size w w' := by
  have HS := Lib.hid (fun (W : World) (hb : Below w.heap.size w W) => rsmall_any rv nv rs ns W (hR.kept hb (Nat.le_refl _)) (hN.kept hb (Nat.le_refl _)))
  obtain ⟨na, nc, rfl⟩ : ∃ na nc, nv = .slice na ns.length nc := by obtain ⟨-, na, nc, rfl, -⟩ := hN; exact ⟨na, nc, rfl⟩
  cases hsm : (fewB rs ns && okB (chkL rs ns)) with
  | false =>
    rw [hsm] at HS
    obtain ⟨-, ra, rc, rfl, -⟩ := hR
    clear hsm hN hC hg
    go_enter Tryz.func3, Tryz.ntmps3
    go_upto_region 2 with (first
      | (go_at_call 4; (with_reducible refine (awake12_any _).mono ?_); rintro e w2 ⟨rfl, hb⟩; have HW := Lib.hid (bl_on (one_new w _) hb); have b0 := (bcell hb).1 w.heap.size 0 (by simp); have b1 := (bcell hb).1 w.heap.size 1 (by simp); simp at b0 b1; clear hb)
      | (go_at_call 5; (with_reducible refine (HS.out _ HW.out).mono ?_); rintro e w3 ⟨rfl, hb⟩; replace HW := Lib.hid (bl_on HW.out hb); clear hb b0 b1))
    go_wp2_with (go_at_call 4; (with_reducible refine (awake12_any _).mono ?_); rintro e w4 ⟨rfl, hb⟩; replace HW := Lib.hid (bl_on HW.out hb); clear hb)
    go_ret
    exact ⟨rfl, HW.out⟩
  | true =>
    obtain ⟨hO, hr0, hrl⟩ := small11 hsm
    rw [hsm] at HS
    have hs := hO.nl
    have hsm2 := hsm
    rw [Bool.and_eq_true] at hsm2
    have hnm := (fewB_yes hsm2.1).1
    obtain ⟨-, -, -, -, -, hord, -⟩ := chkL_ok (okB_ok11 hsm2.2)
    have hup := ordR_up rs (-1) hord
    have HOf := Lib.hid (fun (W : World) (hb : Below w.heap.size w W) => r12of_any rv _ rs ns W (hR.kept hb (Nat.le_refl _)) (hN.kept hb (Nat.le_refl _)) hO)
    have HWf := Lib.hid (fun (W : World) (hb : Below w.heap.size w W) => wof_any rv _ rs ns W (hR.kept hb (Nat.le_refl _)) (hN.kept hb (Nat.le_refl _)) (hC.kept hN rfl hb) hO)
    have HCt := Lib.hid (fun (W : World) (hb : Below w.heap.size w W) => wcount_any rv _ rs ns W (hR.kept hb (Nat.le_refl _)) (hN.kept hb (Nat.le_refl _)) (hC.kept hN rfl hb) hO)
    have HFi := Lib.hid (fun (W : World) (hb : Below w.heap.size w W) => rfirst_any rv _ rs ns W (hR.kept hb (Nat.le_refl _)) (hN.kept hb (Nat.le_refl _)) hO)
    have HCN := Lib.hid (fun (hbd : badL rs ns = []) (W : World) (hb : Below w.heap.size w W) => wcheck_no rv _ rs ns W (hR.kept hb (Nat.le_refl _)) (hN.kept hb (Nat.le_refl _)) (hC.kept hN rfl hb) hO hbd)
    have HCY := Lib.hid (fun (i : Nat) (t : List Int) (hbd : badL rs ns = (i : Int) :: t) (ho : ownL rs (i : Int) < rs.length) (W : World) (hb : Below w.heap.size w W) => wcheck_yes rv _ rs ns i t W (hR.kept hb (Nat.le_refl _)) (hN.kept hb (Nat.le_refl _)) (hC.kept hN rfl hb) hO hbd hup (by omega) (fun r h => by have := hnm r h; omega) ho)
    have HOW := Lib.hid (fun (i : Nat) (hi : i < ns.length) => (ownL_ord rs (-1) (by omega) hord (i : Int) (by omega) (by omega)).1)
    have HRO := Lib.hid (fun (i : Nat) (ho : ownL rs (i : Int) < rs.length) (W : World) (hb : Below w.heap.size w W) => rowner_any rv na ns.length nc rs (i : Int) W (hR.kept hb (Nat.le_refl _)) (-1) hup ho)
    have HBD : Hid (badL rs ns = idxP (fun i => decide ((mkL rs ns (ns.length + 1))[i]? = some false)) ns.length) := Lib.hid rfl
    have hml := mkL_len rs ns (ns.length + 1)
    have hlg := lt_of_cell hg
    have HE := Lib.hid hg
    obtain ⟨-, ra, rc, rfl, hra⟩ := hR
    unfold RofIs at HOf
    unfold OfIs at HWf
    rw [show wfL rs ns = mkL rs ns (ns.length + 1) from rfl] at HWf
    unfold ChkErr at HCY
    have HRA := Lib.hid hra
    generalize mkL rs ns (ns.length + 1) = l at *
    have hl4 : l.length ≤ 400 := by omega
    have HML := Lib.hid hml
    clear hml
    clear hsm hsm2 hN hC hO hg hnm hord hup hr0 hra
    go_enter Tryz.func3, Tryz.ntmps3
    go_upto_region 3 with (first
      | (go_at_call 4; (with_reducible refine (awake12_any _).mono ?_); rintro e w2 ⟨rfl, hb⟩; have HW := Lib.hid (bl_on (one_new w _) hb); have HG := Lib.hid ((Bl.new w 25 #[.slice ra rs.length rc, .slice na ns.length nc]).below hb); have b0 : w2.cell? ⟨w.heap.size, 0, none⟩ = some (.slice ra rs.length rc) := HG.out.cell (o := 0) rfl; have b1 : w2.cell? ⟨w.heap.size, 1, none⟩ = some (.slice na ns.length nc) := HG.out.cell (o := 1) rfl; have lg := HG.out.lt; clear hb)
      | (go_at_call 5; (with_reducible refine (HS.out _ HW.out).mono ?_); rintro e w3 ⟨rfl, hb⟩; replace HW := Lib.hid (bl_on HW.out hb); replace HG := Lib.hid (HG.out.below hb); have d0 : w3.cell? ⟨w.heap.size, 0, none⟩ = some (.slice ra rs.length rc) := HG.out.cell (o := 0) rfl; have d1 : w3.cell? ⟨w.heap.size, 1, none⟩ = some (.slice na ns.length nc) := HG.out.cell (o := 1) rfl; have lg := HG.out.lt; clear hb b0 b1))
    clear HS
    go_upto_region 5 with (go_at_call 6; (with_reducible refine (HOf.out _ HW.out).mono ?_); rintro e w4 ⟨oa, oc, rfl, hm, hb⟩; have HM := Lib.hid hm; have HW4 := Lib.hid (bl_on HW.out hb); have HG4 := Lib.hid (HG.out.below hb); clear hb hm)
    clear d0 d1 lg HW HG HOf
    go_wp2
    go_loopw [4, 5] (fun v c wr => ∃ k : Nat, k ≤ l.length ∧ c = .int .i64 (k : Int) ∧ v = .int .i64 (((idxP (fun i => decide (l[i]? = some false)) k).length : Nat) : Int) ∧ wr = w4) (fun _ c _ => l.length - (intOf c).toNat)
    case atStart => exact ⟨0, Nat.zero_le _, by first | rfl | trivial, by first | rfl | trivial, by first | rfl | trivial⟩
    case round =>
      obtain ⟨k, hk, rfl, rfl, hwr⟩ := hrel
      obtain rfl := hwr.symm
      have hil := idxP_len (fun i => decide (l[i]? = some false)) k
      by_cases hlt : k < l.length
      · have k1 : (k : Int) < (l.length : Int) := by omega
        obtain ⟨b, hb⟩ : ∃ b, l[k]? = some b := ⟨_, List.getElem?_eq_getElem hlt⟩
        obtain ⟨ob, oo, rfl, ox⟩ := HM.out.cell hb
        have lo := lt_of_cell ox
        cases b with
        | false =>
          have HI := Lib.hid (idxP_yes (p := fun i => decide (l[i]? = some false)) (k := k) (decide_eq_true hb))
          clear hb
          generalize idxP (fun i => decide (l[i]? = some false)) k = r at *
          go_wp2
          go_roundw
          case rel => exact ⟨k + 1, by omega, by go_num, by rw [HI.out, List.length_append]; rfl, by first | rfl | trivial⟩
          case measure => simp [intOf]; omega
        | true =>
          have HI := Lib.hid (idxP_no (p := fun i => decide (l[i]? = some false)) (k := k) (by rw [hb]; rfl))
          clear hb
          go_wp2
          go_roundw
          case rel => exact ⟨k + 1, by omega, by go_num, by rw [HI.out], by first | rfl | trivial⟩
          case measure => simp [intOf]; omega
      · obtain rfl : k = l.length := by omega
        have k1 : ¬ (l.length : Int) < (l.length : Int) := by omega
        have hcn : idxP (fun i => decide (l[i]? = some false)) l.length = badL rs ns := by rw [HML.out, HBD.out]
        rw [hcn]
        clear hcn
        have d0 : w4.cell? ⟨w.heap.size, 0, none⟩ = some (.slice ra rs.length rc) := HG4.out.cell (o := 0) rfl; have d1 : w4.cell? ⟨w.heap.size, 1, none⟩ = some (.slice na ns.length nc) := HG4.out.cell (o := 1) rfl; have lg := HG4.out.lt
        clear hil
        rcases hbl : badL rs ns with _ | ⟨z, t⟩
        · have HC0 := Lib.hid (HCN.out hbl)
          rw [hbl] at HCt HFi
          simp only [headI] at HFi
          clear HCN HCY hbl
          go_wp2_with (first
            | (go_at_call 8; (with_reducible refine (HWf.out _ HW4.out).mono ?_); rintro e w5 ⟨rfl, hm, hb⟩; have HM5 := Lib.hid hm; have HN5 := Lib.hid (HM.out.kept hb (Nat.le_refl _)); have HW5 := Lib.hid (bl_on HW4.out hb); have HG5 := Lib.hid (HG4.out.below hb); clear hb hm)
            | (go_at_call 7; (with_reducible refine (eqB_same _ _ l _ (by omega) HM5.out HN5.out).mono ?_); rintro e w6 ⟨rfl, hb⟩; have HW6 := Lib.hid (bl_on HW5.out hb); have HG6 := Lib.hid (HG5.out.below hb); have d0 : w6.cell? ⟨w.heap.size, 0, none⟩ = some (.slice ra rs.length rc) := HG6.out.cell (o := 0) rfl; have d1 : w6.cell? ⟨w.heap.size, 1, none⟩ = some (.slice na ns.length nc) := HG6.out.cell (o := 1) rfl; have lg := HG6.out.lt; clear hb)
            | (go_at_call 9; (with_reducible refine (HCt.out _ HW6.out).mono ?_); rintro e w7 ⟨rfl, hb⟩; have HW7 := Lib.hid (bl_on HW6.out hb); have HG7 := Lib.hid (HG6.out.below hb); have d0 : w7.cell? ⟨w.heap.size, 0, none⟩ = some (.slice ra rs.length rc) := HG7.out.cell (o := 0) rfl; have d1 : w7.cell? ⟨w.heap.size, 1, none⟩ = some (.slice na ns.length nc) := HG7.out.cell (o := 1) rfl; have lg := HG7.out.lt; clear hb)
            | (go_at_call 10; (with_reducible refine (HC0.out _ HW7.out).mono ?_); rintro e w8 ⟨rfl, hb⟩; have HW8 := Lib.hid (bl_on HW7.out hb); have HG8 := Lib.hid (HG7.out.below hb); have d0 : w8.cell? ⟨w.heap.size, 0, none⟩ = some (.slice ra rs.length rc) := HG8.out.cell (o := 0) rfl; have d1 : w8.cell? ⟨w.heap.size, 1, none⟩ = some (.slice na ns.length nc) := HG8.out.cell (o := 1) rfl; have lg := HG8.out.lt; clear hb)
            | (go_at_call 11; (with_reducible refine (HFi.out _ HW8.out).mono ?_); rintro e w9 ⟨rfl, hb⟩; have HW9 := Lib.hid (bl_on HW8.out hb); clear hb))
          go_ret
          exact ⟨rfl, HW9.out⟩
        · have hzin : z ∈ badL rs ns := by rw [hbl]; exact List.mem_cons_self ..
          obtain ⟨i, hi, rfl⟩ : ∃ i : Nat, i < ns.length ∧ z = (i : Int) := by
            rw [HBD.out] at hzin
            obtain ⟨i, hi, e⟩ := List.mem_map.1 hzin
            exact ⟨i, List.mem_range.1 (List.mem_filter.1 hi).1, e.symm⟩
          have how := HOW.out i hi
          have HC1 := Lib.hid (HCY.out i t hbl how)
          have HRO2 := Lib.hid (HRO.out i how)
          obtain ⟨xr, hxr⟩ : ∃ xr, rs[ownL rs (i : Int)]? = some xr := ⟨_, List.getElem?_eq_getElem how⟩
          have hnmx : ruleNm rs i = xr.name := by unfold ruleNm; rw [hxr]
          have i0 : ¬ (i : Int) < 0 := by omega
          rw [hbl] at HCt HFi
          simp only [headI] at HFi
          rw [hnmx] at HC1
          rcases HRA.out with h | ⟨rb, ro, rfl, hcr⟩
          · rw [h] at how; exact absurd how (Nat.not_lt_zero _)
          obtain ⟨r0, -⟩ := hcr _ xr hxr
          have lr := lt_of_cell r0
          have o1 : ((ownL rs (i : Int) : Nat) : Int) < (rs.length : Int) := by omega
          have HR0 := Lib.hid r0
          generalize xr.name = nm at *
          generalize ownL rs (i : Int) = ow at *
          clear HCN HCY HRO HOW hbl hzin hcr hxr hnmx r0
          go_upto_region 19 with (first
            | (go_at_call 8; (with_reducible refine (HWf.out _ HW4.out).mono ?_); rintro e w5 ⟨rfl, hm, hb⟩; have HM5 := Lib.hid hm; have HN5 := Lib.hid (HM.out.kept hb (Nat.le_refl _)); have HW5 := Lib.hid (bl_on HW4.out hb); have HG5 := Lib.hid (HG4.out.below hb); clear hb hm)
            | (go_at_call 7; (with_reducible refine (eqB_same _ _ l _ (by omega) HM5.out HN5.out).mono ?_); rintro e w6 ⟨rfl, hb⟩; have HW6 := Lib.hid (bl_on HW5.out hb); have HG6 := Lib.hid (HG5.out.below hb); have d0 : w6.cell? ⟨w.heap.size, 0, none⟩ = some (.slice (some ⟨rb, ro, none⟩) rs.length rc) := HG6.out.cell (o := 0) rfl; have d1 : w6.cell? ⟨w.heap.size, 1, none⟩ = some (.slice na ns.length nc) := HG6.out.cell (o := 1) rfl; have lg := HG6.out.lt; clear hb)
            | (go_at_call 9; (with_reducible refine (HCt.out _ HW6.out).mono ?_); rintro e w7 ⟨rfl, hb⟩; have HW7 := Lib.hid (bl_on HW6.out hb); have HG7 := Lib.hid (HG6.out.below hb); have d0 : w7.cell? ⟨w.heap.size, 0, none⟩ = some (.slice (some ⟨rb, ro, none⟩) rs.length rc) := HG7.out.cell (o := 0) rfl; have d1 : w7.cell? ⟨w.heap.size, 1, none⟩ = some (.slice na ns.length nc) := HG7.out.cell (o := 1) rfl; have lg := HG7.out.lt; clear hb)
            | (go_at_call 10; (with_reducible refine (HC1.out _ HW7.out).mono ?_); rintro e w8 ⟨⟨eb, rfl, e0, e1⟩, hb⟩; have HIN8 := Lib.hid (show (Err.within eb nm (.fault 6 (i : Int))).In w8 from ⟨e0, e1, trivial⟩); have HW8 := Lib.hid (bl_on HW7.out hb); have HG8 := Lib.hid (HG7.out.below hb); have d0 : w8.cell? ⟨w.heap.size, 0, none⟩ = some (.slice (some ⟨rb, ro, none⟩) rs.length rc) := HG8.out.cell (o := 0) rfl; have d1 : w8.cell? ⟨w.heap.size, 1, none⟩ = some (.slice na ns.length nc) := HG8.out.cell (o := 1) rfl; have lg := HG8.out.lt; clear hb e0 e1)
            | (go_at_call 11; (with_reducible refine (HFi.out _ HW8.out).mono ?_); rintro e w9 ⟨rfl, hb⟩; have HIN9 := Lib.hid (HIN8.out.kept hb (Nat.le_refl _)); have HW9 := Lib.hid (bl_on HW8.out hb); have HG9 := Lib.hid (HG8.out.below hb); clear hb)
            | (go_at_call 12; (refine (Code_some (.within eb nm (.fault 6 (i : Int))) 6 _ rfl HIN9.out (((bcell HW9.out).1 _ _ hlg).trans HE.out)).mono ?_); rintro e w10 ⟨rfl, hb⟩; have HIN10 := Lib.hid (HIN9.out.kept hb (Nat.le_refl _)); have HW10 := Lib.hid (bl_on HW9.out hb); have HG10 := Lib.hid (HG9.out.below hb); clear hb)
            | (go_at_call 13; (refine (At_some (.within eb nm (.fault 6 (i : Int))) 6 (i : Int) _ rfl HIN10.out (((bcell HW10.out).1 _ _ hlg).trans HE.out)).mono ?_); rintro e w11 ⟨rfl, hb⟩; have HIN11 := Lib.hid (HIN10.out.kept hb (Nat.le_refl _)); have HW11 := Lib.hid (bl_on HW10.out hb); have HG11 := Lib.hid (HG10.out.below hb); clear hb)
            | (go_at_call 14; (refine (Rule_within eb nm (.fault 6 (i : Int)) _ HIN11.out (((bcell HW11.out).1 _ _ hlg).trans HE.out)).mono ?_); rintro e w12 ⟨rfl, hb⟩; have HW12 := Lib.hid (bl_on HW11.out hb); have HG12 := Lib.hid (HG11.out.below hb); clear hb))
          have d0 : w12.cell? ⟨w.heap.size, 0, none⟩ = some (.slice (some ⟨rb, ro, none⟩) rs.length rc) := HG12.out.cell (o := 0) rfl
          have d1 : w12.cell? ⟨w.heap.size, 1, none⟩ = some (.slice na ns.length nc) := HG12.out.cell (o := 1) rfl
          have r0 : w12.cell? ⟨rb, ro + ow * 2, none⟩ = some (.string nm) := ((bcell HW12.out).1 _ _ lr).trans HR0.out
          obtain ⟨n0, hn0⟩ : ∃ n0, w.heap.size = n0 := ⟨_, rfl⟩
          have hnw : n0 ≤ w.heap.size := Nat.le_of_eq hn0.symm
          have HN0 := Lib.hid hn0
          obtain ⟨G, hG⟩ : ∃ G, G = w.heap.size := ⟨_, rfl⟩
          rw [← hG] at d0 d1
          have hS : (fun V : World => V.cell? ⟨G, 0, none⟩ = some (.slice (some ⟨rb, ro, none⟩) rs.length rc) ∧ V.cell? ⟨G, 1, none⟩ = some (.slice na ns.length nc) ∧ V.cell? ⟨rb, ro + ow * 2, none⟩ = some (.string nm) ∧ Below n0 w V) w12.drew := ⟨d0, d1, r0, by rw [← hn0]; exact HW12.out.drew⟩
          clear hn0 HWf HCt HFi HC1 HM5 HN5 HIN8 HIN9 HIN10 HIN11 HG4 HG5 HG6 HG7 HG8 HG9 HG10 HG11 HG12 HW4 HW5 HW6 HW7 HW8 HW9 HW10 HW11 HW12 d0 d1 r0
          dsimp only at hS
          rw [← hG]
          clear hG
          go_region_held3 (fun V : World => V.cell? ⟨G, 0, none⟩ = some (.slice (some ⟨rb, ro, none⟩) rs.length rc) ∧ V.cell? ⟨G, 1, none⟩ = some (.slice na ns.length nc) ∧ V.cell? ⟨rb, ro + ow * 2, none⟩ = some (.string nm) ∧ Below n0 w V) (first | exact hS)
            (first
              | (go_at_call 15; with_reducible refine (HRO2.out _ (by rw [HN0.out]; exact hS.2.2.2)).mono ?_; rintro ev w13 ⟨rfl, hb⟩; replace hS := law5K hnw hb hS; clear hb))
          have HBF := Lib.hid hS.2.2.2
          clear hS
          go_wp2
          go_ret
          exact ⟨rfl, by rw [HN0.out]; exact HBF.out⟩
end Go.Proofs.YtnfjbjmdempafaaGreatDoor
