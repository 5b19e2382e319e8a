/- The law MeasureBytes. -/
import Derived.Test.YtklimoepkifnhaaMeasLawReach
import Derived.Deep.CutRange
import Derived.Test.YtklimoepkifnhaaAggRule
namespace Go.Proofs.Ytklimoepkifnhaa
open Go.RowKit
attribute [local go_sem ↓] exec_neq4
attribute [local go_sem] eq4_mk orElse_some
theorem below_eq {w w' : World} {q : Nat} (h : w' = w.drewN q) : Below w.heap.size w w' := by rw [h]; exact below_drewN (Below.refl _ _)
theorem bytesK {n G nb o b i : Nat} {x0 x1 x2 x3 x4 x5 x6 : Value} {w W W' : World} (hn : n ≤ w.heap.size) (hb : Below W.heap.size W W') (h : W.cell? ⟨G, 1, none⟩ = some x0 ∧ W.cell? ⟨nb, o + 3, none⟩ = some x1 ∧ W.cell? ⟨nb, o + 4, none⟩ = some x2 ∧ W.cell? ⟨nb, o + 5, none⟩ = some x3 ∧ W.cell? ⟨nb, o + 6, none⟩ = some x4 ∧ W.cell? ⟨b, i, none⟩ = some x5 ∧ W.cell? ⟨b, i + 1, none⟩ = some x6 ∧ Below n w W) :
    W'.cell? ⟨G, 1, none⟩ = some x0 ∧ W'.cell? ⟨nb, o + 3, none⟩ = some x1 ∧ W'.cell? ⟨nb, o + 4, none⟩ = some x2 ∧ W'.cell? ⟨nb, o + 5, none⟩ = some x3 ∧ W'.cell? ⟨nb, o + 6, none⟩ = some x4 ∧ W'.cell? ⟨b, i, none⟩ = some x5 ∧ W'.cell? ⟨b, i + 1, none⟩ = some x6 ∧ Below n w W' := by
  obtain ⟨h0, h1, h2, h3, h4, h6, h7, h5⟩ := h
  have hc := (bcell hb).1
  exact ⟨by rw [hc _ _ (lt_of_cell h0)]; exact h0, by rw [hc _ _ (lt_of_cell h1)]; exact h1, by rw [hc _ _ (lt_of_cell h2)]; exact h2, by rw [hc _ _ (lt_of_cell h3)]; exact h3, by rw [hc _ _ (lt_of_cell h4)]; exact h4, by rw [hc _ _ (lt_of_cell h6)]; exact h6, by rw [hc _ _ (lt_of_cell h7)]; exact h7, h5.trans (hb.mono (Nat.le_trans hn h5.size))⟩
set_option maxHeartbeats 8000000 in
set_option maxRecDepth 100000 in
theorem law7_bytes (rv nv : Value) (rs : List PR) (ns : List PN) (w : World) (hR : RulesIn w rv rs) (hN : NodesAt w nv ns) (hw : ∀ n, n ∈ ns → WordsOk n) :
    Calls Try.prog 4 #[.agg #[rv, nv]] w fun e w' => e = .returned (.bool true) ∧ Below w.heap.size w w' := by
  have HS := Lib.hid (fun (W : World) (hb : Below w.heap.size w W) => rsmall_any rv nv rs ns W (hR.kept hb (Nat.le_refl _)) (hN.kept hb (Nat.le_refl _)))
  cases hsm : (fewB rs ns && okB (chkL rs ns)) with
  | false =>
    rw [hsm] at HS
    obtain ⟨-, ra, rc, rfl, -⟩ := hR
    obtain ⟨-, na, nc, rfl, -⟩ := hN
    clear hsm
    go_enter Try.func4, Try.ntmps4
    go_upto_region 2 with (first
      | (go_at_call 8; (with_reducible refine (awake7_any _).mono ?_); rintro e w2 ⟨rfl, hb⟩; have HW := Lib.hid ((one_new w _).trans (hb.mono (one_new w _).size)); have b0 := (bcell hb).1 w.heap.size 0 (by simp); have b1 := (bcell hb).1 w.heap.size 1 (by simp); simp at b0 b1; clear hb)
      | (go_at_call 9; (with_reducible refine (HS.out _ HW.out).mono ?_); rintro e w3 ⟨rfl, hb⟩; replace HW := Lib.hid (HW.out.trans (hb.mono HW.out.size)); clear hb))
    go_wp2_with (go_at_call 8; (with_reducible refine (awake7_any _).mono ?_); rintro e w4 ⟨rfl, hb⟩; replace HW := Lib.hid (HW.out.trans (hb.mono HW.out.size)); clear hb)
    go_ret
    exact ⟨rfl, HW.out⟩
  | true =>
    have hS := small7 hsm
    rw [hsm] at HS
    have hrl := hS.rl
    have hnl := hS.nl
    have hz : ∀ n, n ∈ ns → n.op ≠ 1 → n.s0 = 0 ∧ n.s1 = 0 ∧ n.s2 = 0 ∧ n.s3 = 0 := fun n hn => (made_kind (hS.made n hn)).2.2.2.2
    have hn0 : 0 < ns.length := by have := kids_rules hS.ord; have := hS.r0; omega
    obtain ⟨na, nc, rfl⟩ : ∃ na nc, nv = .slice na ns.length nc := by obtain ⟨-, na, nc, rfl, -⟩ := hN; exact ⟨na, nc, rfl⟩
    obtain ⟨ra, rc, rfl⟩ : ∃ ra rc, rv = .slice ra rs.length rc := by obtain ⟨-, ra, rc, rfl, -⟩ := hR; exact ⟨ra, rc, rfl⟩
    have HV1 := Lib.hid (fun (W : World) (hb : Below w.heap.size w W) => by
      have h := mbytes_any ra rs.length rc (.slice na ns.length nc) ns W (hN.kept hb (Nat.le_refl _)) (by omega) hw
      rw [setV_congr (fun i _ => byteP_is hz i)] at h
      exact h)
    have HV2 := Lib.hid (fun (W : World) (hb : Below w.heap.size w W) => r7bytes_any ra rs.length rc (.slice na ns.length nc) ns W (hN.kept hb (Nat.le_refl _)) (by omega) hw)
    have HR1 := Lib.hid (fun (W : World) (hb : Below w.heap.size w W) => by
      have h := mruns_any ra rs.length rc (.slice na ns.length nc) ns W (hN.kept hb (Nat.le_refl _)) (by omega) hw
      rw [classL_congr 256 (fun j hj => begP_is hz j hj)] at h
      exact h)
    have HR2 := Lib.hid (fun (W : World) (hb : Below w.heap.size w W) => r7runs_any ra rs.length rc (.slice na ns.length nc) ns W (hN.kept hb (Nat.le_refl _)) (by omega) hw)
    have HSA := Lib.hid (fun (x : Nat × Nat) (hx : x ∈ classL (begB ns) 256) => classL_same hx)
    have HAL := Lib.hid (fun (x : Nat × Nat) (hx : x ∈ classL (begB ns) 256) => classL_all (begB ns) (begB_zero ns) 256 x hx)
    have hll := classL_len (begB ns) (begB_zero ns) 256
    have HWD := Lib.hid hw
    unfold RunsIs at HR1 HR2
    unfold setV at HV1 HV2
    generalize classL (begB ns) 256 = l at *
    generalize setW (anyF ns) 0 = b0 at HV1 HV2
    generalize setW (anyF ns) 1 = b1 at HV1 HV2
    generalize setW (anyF ns) 2 = b2 at HV1 HV2
    generalize setW (anyF ns) 3 = b3 at HV1 HV2
    have hq4 : (b0 == b0 && (b1 == b1 && (b2 == b2 && b3 == b3))) = true := by simp
    obtain ⟨-, na', nc', he, ha⟩ := hN
    obtain ⟨rfl, -, rfl⟩ := Value.slice.inj he
    clear he
    rcases ha with h0 | ⟨nb, no, rfl, hca⟩
    · rw [h0] at hn0; exact absurd hn0 (Nat.lt_irrefl _)
    have HCAL := Lib.hid hca
    have HL := Lib.hid (show l.length ≤ 1000000 by omega)
    clear hsm hS hR hca hw hz
    go_enter Try.func4, Try.ntmps4
    go_upto_region 4 with (first
      | (go_at_call 8; (with_reducible refine (awake7_any _).mono ?_); rintro e w2 ⟨rfl, hb⟩; have HW := Lib.hid ((one_new w _).trans (hb.mono (one_new w _).size)); have e0 := (bcell hb).1 w.heap.size 0 (by simp); have e1 := (bcell hb).1 w.heap.size 1 (by simp); simp at e0 e1; clear hb)
      | (go_at_call 9; (with_reducible refine (HS.out _ HW.out).mono ?_); rintro e w3 ⟨rfl, hb⟩; replace HW := Lib.hid (HW.out.trans (hb.mono HW.out.size)); have d0 := (bcell hb).1 _ 0 (lt_of_cell e0); have d1 := (bcell hb).1 _ 1 (lt_of_cell e1); rw [e0] at d0; rw [e1] at d1; clear hb e0 e1)
      | (go_at_call 12; (with_reducible refine (HR1.out _ HW.out).mono ?_); rintro e w4 ⟨u, rfl, hown, hb⟩; replace HW := Lib.hid (HW.out.trans (hb.mono HW.out.size)); have e0 := (bcell hb).1 _ 0 (lt_of_cell d0); have e1 := (bcell hb).1 _ 1 (lt_of_cell d1); rw [d0] at e0; rw [d1] at e1; obtain ⟨ua, uc, rfl, hp⟩ := PairsAt.of_owns hown; have HP := Lib.hid (show PairsAt w4 (.slice ua l.length uc) l from ⟨ua, uc, rfl, hp⟩); clear hb d0 d1 hown hp))
    go_cut [27] from 16 to 65 (fun b wx => b = .bool false ∧ Below w4.heap.size w4 wx)
    case first =>
      obtain ⟨n0, hn0⟩ : ∃ n0, w4.heap.size = n0 := ⟨_, rfl⟩
      have hnw : n0 ≤ w4.heap.size := Nat.le_of_eq hn0.symm
      have HN0 := Lib.hid hn0
      have HWN := Lib.hid (fun (W : World) (h : Below n0 w4 W) => show Below w.heap.size w W from HW.out.trans ((by rw [hn0]; exact h : Below w4.heap.size w4 W).mono HW.out.size))
      have HPB := Lib.hid (fun (W : World) (h : Below n0 w4 W) => HP.out.below (by rw [hn0]; exact h : Below w4.heap.size w4 W))
      have hS : (fun W : World => W.cell? ⟨w.heap.size, 0, none⟩ = some (.slice ra rs.length rc) ∧ W.cell? ⟨w.heap.size, 1, none⟩ = some (.slice (some ⟨nb, no, none⟩) ns.length nc) ∧ Below n0 w4 W) w4.drew := ⟨e0, e1, by rw [← hn0]; exact (Below.refl _ _).drew⟩
      clear hn0 e0 e1
      dsimp only at hS
      go_region_held3 (fun W => W.cell? ⟨w.heap.size, 0, none⟩ = some (.slice ra rs.length rc) ∧ W.cell? ⟨w.heap.size, 1, none⟩ = some (.slice (some ⟨nb, no, none⟩) ns.length nc) ∧ Below n0 w4 W) (first | exact hS)
        (first
          | (go_at_call 14; (with_reducible refine (HR2.out _ (HWN.out _ hS.2.2)).mono ?_); rintro ev w5 ⟨u2, rfl, hown, hb⟩; replace hS := boxK hnw hb hS; have HP5 := Lib.hid (HPB.out _ hS.2.2); obtain ⟨va, vc, rfl, hp2⟩ := PairsAt.of_owns hown; have HP2 := Lib.hid (show PairsAt w5 (.slice va l.length vc) l from ⟨va, vc, rfl, hp2⟩); clear hb hown hp2)
          | (go_at_call 13; (with_reducible refine (eqRuns_any _ _ l l _ HL.out HP5.out HP2.out true (decide_eq_true rfl)).mono ?_); rintro ev w6 ⟨rfl, q, hw6⟩; replace hS := boxK hnw (below_eq hw6) hS; clear hw6 HP5 HP2)
          | (go_at_call 15; (with_reducible refine (HV1.out _ (HWN.out _ hS.2.2)).mono ?_); rintro ev w7 ⟨rfl, hb⟩; replace hS := boxK hnw hb hS; clear hb)
          | (go_at_call 16; (with_reducible refine (HV2.out _ (HWN.out _ hS.2.2)).mono ?_); rintro ev w8 ⟨rfl, hb⟩; replace hS := boxK hnw hb hS; clear hb))
      have hbf := hS.2.2
      rw [← HN0.out] at hbf
      have HBF := Lib.hid hbf
      clear hbf hS hnw
      go_wp2_with fail
      go_meet
      case rel => exact ⟨rfl, HBF.out⟩
    case rest =>
    obtain ⟨rfl, hb⟩ := hcut
    have g0 := (bcell hb).1 _ 0 (lt_of_cell e0)
    have g1 := (bcell hb).1 _ 1 (lt_of_cell e1)
    rw [e0] at g0
    rw [e1] at g1
    have HPc := Lib.hid (HP.out.below hb)
    replace HW := Lib.hid (HW.out.trans (hb.mono HW.out.size))
    clear hb e0 e1 HP hq4 HV1 HV2 HR1 HR2
    obtain ⟨wo, rfl⟩ : ∃ wo, wo = wc := ⟨_, rfl⟩
    go_wp2_with fail
    go_loopw [4] (fun c wr => ∃ i : Nat, i ≤ l.length ∧ c = .int .i64 i ∧ Below wo.heap.size wo wr) (fun c _ => l.length - (intOf c).toNat)
    case atStart => exact ⟨0, Nat.zero_le _, rfl, Below.refl _ _⟩
    case round =>
      obtain ⟨i, hi, rfl, hb⟩ := hrel
      by_cases hlt : i < l.length
      · have i1 : (i : Int) < (l.length : Int) := by omega
        have i0 : ¬ (i : Int) < 0 := by omega
        have i2 : IntKind.i64.wrap ((i : Int) + 1) = ((i + 1 : Nat) : Int) := by rw [IntWalk.i64_in _ (by omega)]; omega
        obtain ⟨x, hx⟩ : ∃ x, l[i]? = some x := ⟨_, List.getElem?_eq_getElem hlt⟩
        have HSX := Lib.hid (HSA.out x (List.mem_of_getElem? hx))
        have hxx := HAL.out x (List.mem_of_getElem? hx)
        have hx1 : x.1 < 256 := by omega
        have hx2 : x.2 < 256 := hxx.2.1
        clear hxx
        obtain ⟨x1, x2⟩ := x
        dsimp only at hx1 hx2 HSX
        obtain ⟨wb, hwb⟩ : ∃ wb, wb = wr := ⟨_, rfl⟩
        have HBW := Lib.hid hb
        rw [← hwb] at HBW
        rw [← hwb]
        clear hb hwb
        go_wp2_with fail
        go_loopw [5] (fun c wr => ∃ k : Nat, k ≤ ns.length ∧ c = .int .i64 k ∧ Below wo.heap.size wo wr) (fun c _ => ns.length - (intOf c).toNat)
        case atStart => exact ⟨0, Nat.zero_le _, rfl, HBW.out⟩
        case round =>
          obtain ⟨k, hk, rfl, hb⟩ := hrel
          have h1 : wr.cell? ⟨w.heap.size, 1, none⟩ = some (.slice (some ⟨nb, no, none⟩) ns.length nc) := by rw [(bcell hb).1 _ _ (lt_of_cell g1)]; exact g1
          by_cases hkt : k < ns.length
          · have k1 : (k : Int) < (ns.length : Int) := by omega
            have k0 : ¬ (k : Int) < 0 := by omega
            obtain ⟨n, hn⟩ : ∃ n, ns[k]? = some n := ⟨_, List.getElem?_eq_getElem hkt⟩
            have hmem := List.mem_of_getElem? hn
            have hbw := HW.out.trans (hb.mono HW.out.size)
            obtain ⟨kv, -, -, -, c3, c4, c5, c6, -, -⟩ := (HCAL.out k n hn).kept hbw (Nat.le_refl _)
            obtain ⟨y0, y1, y2, y3⟩ := bitF_word (HWD.out n hmem)
            rw [y0] at c3
            rw [y1] at c4
            rw [y2] at c5
            rw [y3] at c6
            obtain ⟨pa, pc, hpe, hpp⟩ := HPc.out.below hb
            obtain ⟨rfl, -, rfl⟩ := Value.slice.inj hpe
            clear hpe
            rcases hpp with h0 | ⟨pb, rfl, hpp⟩
            · rw [h0] at hlt; exact absurd hlt (Nat.not_lt_zero _)
            obtain ⟨p0, p1⟩ := hpp i (x1, x2) hx
            dsimp only at p0 p1
            have HU1 := Lib.hid (fun W => rhas_w (f := bitF n) hx1 W)
            have HU2 := Lib.hid (fun W => rhas_w (f := bitF n) hx2 W)
            rw [← HSX.out n hmem] at HU2
            have HB := Lib.hid hb
            have hwp : (fun W : World => W.cell? ⟨w.heap.size, 1, none⟩ = some (.slice (some ⟨nb, no, none⟩) ns.length nc) ∧ W.cell? ⟨nb, no + k * 7 + 3, none⟩ = some (.int .u64 (setW (bitF n) 0)) ∧ W.cell? ⟨nb, no + k * 7 + 4, none⟩ = some (.int .u64 (setW (bitF n) 1)) ∧ W.cell? ⟨nb, no + k * 7 + 5, none⟩ = some (.int .u64 (setW (bitF n) 2)) ∧ W.cell? ⟨nb, no + k * 7 + 6, none⟩ = some (.int .u64 (setW (bitF n) 3)) ∧ W.cell? ⟨pb, i * 2, none⟩ = some (.int .u8 (x1 : Int)) ∧ W.cell? ⟨pb, i * 2 + 1, none⟩ = some (.int .u8 (x2 : Int)) ∧ Below wo.heap.size wo W) wr.drew := ⟨h1, c3, c4, c5, c6, p0, p1, hb.drew⟩
            have hS := Lib.hid hwp
            clear hwp hb hn hbw y0 y1 y2 y3 hpp hmem hx HB g1 g0
            generalize bitF n x1 = u at *
            have q1 : (u != u) = false := by simp
            go_upto_region 12 with fail
            clear h1 c3 c4 c5 c6 p0 p1
            replace hS := hS.out
            obtain ⟨n0, hn0⟩ : ∃ n0, wo.heap.size = n0 := ⟨_, rfl⟩
            have hnw : n0 ≤ wo.heap.size := Nat.le_of_eq hn0.symm
            have HN0 := Lib.hid hn0
            have hS2 : (fun W : World => W.cell? ⟨w.heap.size, 1, none⟩ = some (.slice (some ⟨nb, no, none⟩) ns.length nc) ∧ W.cell? ⟨nb, no + k * 7 + 3, none⟩ = some (.int .u64 (setW (bitF n) 0)) ∧ W.cell? ⟨nb, no + k * 7 + 4, none⟩ = some (.int .u64 (setW (bitF n) 1)) ∧ W.cell? ⟨nb, no + k * 7 + 5, none⟩ = some (.int .u64 (setW (bitF n) 2)) ∧ W.cell? ⟨nb, no + k * 7 + 6, none⟩ = some (.int .u64 (setW (bitF n) 3)) ∧ W.cell? ⟨pb, i * 2, none⟩ = some (.int .u8 (x1 : Int)) ∧ W.cell? ⟨pb, i * 2 + 1, none⟩ = some (.int .u8 (x2 : Int)) ∧ Below n0 wo W) wr.drew := by
              obtain ⟨a0, a1, a2, a3, a4, a5, a6, a7⟩ := hS
              exact ⟨a0, a1, a2, a3, a4, a5, a6, by rw [← hn0]; exact a7⟩
            clear hS hn0
            have hS := hS2
            clear hS2
            dsimp only at hS
            go_region_held3 (fun W => W.cell? ⟨w.heap.size, 1, none⟩ = some (.slice (some ⟨nb, no, none⟩) ns.length nc) ∧ W.cell? ⟨nb, no + k * 7 + 3, none⟩ = some (.int .u64 (setW (bitF n) 0)) ∧ W.cell? ⟨nb, no + k * 7 + 4, none⟩ = some (.int .u64 (setW (bitF n) 1)) ∧ W.cell? ⟨nb, no + k * 7 + 5, none⟩ = some (.int .u64 (setW (bitF n) 2)) ∧ W.cell? ⟨nb, no + k * 7 + 6, none⟩ = some (.int .u64 (setW (bitF n) 3)) ∧ W.cell? ⟨pb, i * 2, none⟩ = some (.int .u8 (x1 : Int)) ∧ W.cell? ⟨pb, i * 2 + 1, none⟩ = some (.int .u8 (x2 : Int)) ∧ Below n0 wo W) (first | exact hS)
              (first
                | (go_at_call 17; first
                    | (with_reducible refine (HU1.out _).mono ?_; rintro ev w3 ⟨rfl, hb⟩; replace hS := bytesK hnw hb hS; clear hb)
                    | (with_reducible refine (HU2.out _).mono ?_; rintro ev w3 ⟨rfl, hb⟩; replace hS := bytesK hnw hb hS; clear hb)))
            have hbf := hS.2.2.2.2.2.2.2
            rw [← HN0.out] at hbf
            have HBF := Lib.hid hbf
            clear hbf hS hnw
            go_wp2
            go_roundw
            case rel => exact ⟨k + 1, by omega, by go_num, HBF.out⟩
            case measure => simp [intOf]; omega
          · obtain rfl : k = ns.length := by omega
            have k1 : ¬ (ns.length : Int) < (ns.length : Int) := by omega
            have HBe := Lib.hid hb
            clear hb
            go_wp2
            go_roundw
            case rel => exact ⟨i + 1, by omega, by go_num, HBe.out⟩
            case measure => simp [intOf]; omega
      · obtain rfl : i = l.length := by omega
        have i1 : ¬ (l.length : Int) < (l.length : Int) := by omega
        have HBe := Lib.hid hb
        clear hb
        go_wp2
        go_ret
        exact ⟨rfl, HW.out.trans (HBe.out.mono HW.out.size)⟩
end Go.Proofs.Ytklimoepkifnhaa
