/- The law MeasureChains. -/
import Derived.Test.YtklimoepkifnhaaMeasLawReach
import Derived.Deep.CutRange
namespace Go.Proofs.Ytklimoepkifnhaa
open Go.RowKit
theorem mem_reachL {rs : List PR} {ns : List PN} {x z : Nat} : z ∈ reachL rs ns (x : Int) ↔ x < rs.length ∧ z < rs.length ∧ Rch (callE rs ns) x z := by
  unfold reachL
  by_cases h : x < rs.length
  · rw [if_pos ⟨by omega, by omega⟩, memb_mem, show ((x : Int)).toNat = x by omega, rchB_iff]
    exact ⟨fun ⟨a, b⟩ => ⟨h, a, b⟩, fun ⟨_, a, b⟩ => ⟨a, b⟩⟩
  · rw [if_neg (by omega)]
    exact ⟨fun h => by simp at h, fun ⟨a, _⟩ => absurd a h⟩
theorem mem_cast {l : List Nat} {x : Nat} : ((x : Int) ∈ l.map fun k : Nat => (k : Int)) ↔ x ∈ l := by
  rw [List.mem_map]
  exact ⟨fun ⟨k, h, e⟩ => by have : k = x := by omega
                             rw [← this]; exact h, fun h => ⟨x, h, rfl⟩⟩
theorem chain_mem {rs : List PR} {ns : List PN} {x y z : Nat} (hy : y ∈ reachL rs ns (x : Int)) (hz : z ∈ reachL rs ns (y : Int)) : z ∈ reachL rs ns (x : Int) := by
  obtain ⟨h1, h2, h3⟩ := mem_reachL.1 hy
  obtain ⟨h4, h5, h6⟩ := mem_reachL.1 hz
  exact mem_reachL.2 ⟨h1, h5, h3.trans h6⟩
set_option maxHeartbeats 8000000 in
set_option maxRecDepth 100000 in
theorem law7_chains (rv nv : Value) (rs : List PR) (ns : List PN) (a : Nat) (w : World) (ha : a ≤ 255) (hR : RulesIn w rv rs) (hN : NodesAt w nv ns) (hcap : ∀ a n cap, nv = .slice a n cap → n ≤ cap) :
    Calls Try.prog 7 #[.agg #[rv, nv], .int .u8 (a : Int)] w fun e w' => e = .returned (.bool true) ∧ Below w.heap.size w w' := by
  have HS := Lib.hid (fun (W : World) (hb : Below w.heap.size w W) => rsmall_any rv nv rs ns W (hR.kept hb (Nat.le_refl _)) (hN.kept hb (Nat.le_refl _)))
  cases hsm : (fewB rs ns && okB (chkL rs ns)) with
  | false =>
    rw [hsm] at HS
    obtain ⟨-, ra, rc, rfl, -⟩ := hR
    obtain ⟨-, na, nc, rfl, -⟩ := hN
    clear hsm hcap
    go_enter Try.func7, Try.ntmps7
    go_upto_region 2 with (first
      | (go_at_call 8; (with_reducible refine (awake7_any _).mono ?_); rintro e w2 ⟨rfl, hb⟩; have HW := Lib.hid ((one_new w _).trans (hb.mono (one_new w _).size)); have b0 := (bcell hb).1 w.heap.size 0 (by simp); have b1 := (bcell hb).1 w.heap.size 1 (by simp); simp at b0 b1; clear hb)
      | (go_at_call 9; (with_reducible refine (HS.out _ HW.out).mono ?_); rintro e w3 ⟨rfl, hb⟩; replace HW := Lib.hid (HW.out.trans (hb.mono HW.out.size)); clear hb))
    go_wp2_with (go_at_call 8; (with_reducible refine (awake7_any _).mono ?_); rintro e w4 ⟨rfl, hb⟩; replace HW := Lib.hid (HW.out.trans (hb.mono HW.out.size)); clear hb)
    go_ret
    exact ⟨rfl, HW.out⟩
  | true =>
    have hS := small7 hsm
    rw [hsm] at HS
    obtain ⟨na, nc, rfl⟩ : ∃ na nc, nv = .slice na ns.length nc := by obtain ⟨-, na, nc, rfl, -⟩ := hN; exact ⟨na, nc, rfl⟩
    have HRA := Lib.hid (fun (W : World) (hb : Below w.heap.size w W) (r : Int) => reach7 hS hR hN (hcap _ _ _ rfl) W hb r)
    have hlen : ∀ r : Int, (reachL rs ns r).length ≤ 30 := fun r => by have h1 := reachL_len rs ns r; have h2 := hS.rl; omega
    have HLEN := Lib.hid hlen
    unfold ReachIs at HRA
    obtain ⟨x, hx⟩ : ∃ x, a % rs.length = x := ⟨_, rfl⟩
    have hr0 := hS.r0
    have hrl := hS.rl
    have hxr : x < rs.length := by rw [← hx]; exact Nat.mod_lt _ hr0
    have hmod : (a : Int) % (rs.length : Int) = (x : Int) := by rw [← hx]; omega
    have hz0 : ¬ rs.length = 0 := by omega
    have hz1 : ¬ (rs.length : Int) = 0 := by omega
    have hz2 : ((rs.length : Int) == 0) = false := ibeq_no hz1
    have hz3 : rs ≠ [] := by intro e; rw [e] at hz0; exact hz0 rfl
    have ha0 : (0 : Int) ≤ (a : Int) := by omega
    have hwa : IntKind.i64.wrap (a : Int) = (a : Int) := IntWalk.i64_in _ (by omega)
    have htm : (a : Int).tmod (rs.length : Int) = (x : Int) := by rw [Int.tmod_eq_emod_of_nonneg ha0]; exact hmod
    have HXX := Lib.hid (mem_reachL.2 ⟨hxr, hxr, Rch.here⟩ : x ∈ reachL rs ns (x : Int))
    obtain ⟨-, ra, rc, rfl, -⟩ := hR
    clear hsm hcap hS hN hx hlen
    go_enter Try.func7, Try.ntmps7
    go_upto_region 3 with (first
      | (go_at_call 8; (with_reducible refine (awake7_any _).mono ?_); rintro e w2 ⟨rfl, hb⟩; have HW := Lib.hid ((one_new w _).trans (hb.mono (one_new w _).size)); have b0 := (bcell hb).1 w.heap.size 0 (by simp); have b1 := (bcell hb).1 w.heap.size 1 (by simp); simp at b0 b1; clear hb)
      | (go_at_call 9; (with_reducible refine (HS.out _ HW.out).mono ?_); rintro e w3 ⟨rfl, hb⟩; replace HW := Lib.hid (HW.out.trans (hb.mono HW.out.size)); have d0 := (bcell hb).1 _ 0 (lt_of_cell b0); have d1 := (bcell hb).1 _ 1 (lt_of_cell b1); rw [b0] at d0; rw [b1] at d1; clear hb b0 b1))
    go_cut [5] from 17 (fun v5 wx => ∃ a5 c5, v5 = .slice a5 (reachL rs ns (x : Int)).length c5 ∧ IntsAt wx (.slice a5 (reachL rs ns (x : Int)).length c5) ((reachL rs ns (x : Int)).map fun k : Nat => (k : Int)) ∧ Below w.heap.size w wx ∧ wx.cell? ⟨w.heap.size, 0, none⟩ = some (.slice ra rs.length rc) ∧ wx.cell? ⟨w.heap.size, 1, none⟩ = some (.slice na ns.length nc))
    case first =>
      go_region_with (go_at_call 19; (with_reducible refine (HRA.out _ HW.out.drew (x : Int)).mono ?_); rintro e w5 ⟨a5, c5, rfl, hi, hb⟩; have HW5 := Lib.hid (HW.out.drew.trans (hb.mono HW.out.drew.size)); have HI5 := Lib.hid hi; have e0 := (bcell hb).1 _ 0 (lt_of_cell d0); have e1 := (bcell hb).1 _ 1 (lt_of_cell d1); simp only [World.cell?_drew] at e0 e1; rw [d0] at e0; rw [d1] at e1; clear hb hi)
      all_goals go_wp2_with fail
      all_goals first
        | (go_meet
           case rel => exact ⟨_, _, rfl, HI5.out, HW5.out, e0, e1⟩)
        | trace_state
    case rest =>
    obtain ⟨a5, c5, rfl, hi, hb, e0, e1⟩ := hcut
    have HW5 := Lib.hid hb
    have HI5 := Lib.hid hi
    clear hi hb HW d0 d1
    have hl0 : ∀ r : Int, ((reachL rs ns r).map fun k : Nat => (k : Int)).length ≤ 1000000 := fun r => by rw [List.length_map]; have := HLEN.out r; omega
    have HL0 := Lib.hid hl0
    clear hl0
    go_wp2_with (go_at_call 22; (with_reducible refine (has_int _ _ (x : Int) true _ (HL0.out _) HI5.out (decide_eq_true (mem_cast.2 HXX.out))).mono ?_); rintro e w6 ⟨rfl, rfl⟩)
    have hnx : ∀ k : Nat, k < 31 → IntKind.i64.wrap ((k : Int) + 1) = (k : Int) + 1 := fun k h => IntWalk.i64_in _ (by omega)
    have HNX := Lib.hid hnx
    clear hnx ha hr0 hrl hxr hmod hz0 hz1 hz2 hz3 ha0 hwa htm
    go_loopw [6] (fun c wr => ∃ k : Nat, k ≤ (reachL rs ns (x : Int)).length ∧ c = .int .i64 k ∧ Below w.heap.size w wr ∧ IntsAt wr (.slice a5 (reachL rs ns (x : Int)).length c5) ((reachL rs ns (x : Int)).map fun k : Nat => (k : Int)) ∧ wr.cell? ⟨w.heap.size, 0, none⟩ = some (.slice ra rs.length rc) ∧ wr.cell? ⟨w.heap.size, 1, none⟩ = some (.slice na ns.length nc)) (fun c _ => (reachL rs ns (x : Int)).length - (intOf c).toNat)
    case atStart => exact ⟨0, Nat.zero_le _, rfl, HW5.out, HI5.out, e0, e1⟩
    case round =>
      obtain ⟨k, hk, rfl, hb, hi, f0, f1⟩ := hrel
      have HWr := Lib.hid hb
      have HIr := Lib.hid hi
      clear e0 e1 HW5 HI5 hb
      by_cases hlt : k < (reachL rs ns (x : Int)).length
      · have k1 : (k : Int) < ((reachL rs ns (x : Int)).length : Int) := by omega
        have hL := HLEN.out (x : Int)
        have k2 := HNX.out k (by omega)
        obtain ⟨y, hy⟩ : ∃ y, (reachL rs ns (x : Int))[k]? = some y := ⟨_, List.getElem?_eq_getElem hlt⟩
        have HYM := Lib.hid (List.mem_of_getElem? hy)
        obtain ⟨a5', c5', he5, h5⟩ := hi
        obtain ⟨rfl, -, rfl⟩ := Value.slice.inj he5
        clear he5
        rcases h5 with h0 | ⟨ab, ao, rfl, hca⟩
        · rw [List.map_eq_nil_iff] at h0; rw [h0] at hlt; exact absurd hlt (Nat.not_lt_zero _)
        have cy := hca k (y : Int) (by rw [List.getElem?_map, hy]; rfl)
        clear hca hy
        go_upto_region 9 with fail
        go_cut [7] from 34 to 58 (fun v7 wx => ∃ a7 c7, v7 = .slice a7 (reachL rs ns (y : Int)).length c7 ∧ IntsAt wx (.slice a7 (reachL rs ns (y : Int)).length c7) ((reachL rs ns (y : Int)).map fun k : Nat => (k : Int)) ∧ IntsAt wx (.slice (some ⟨ab, ao, none⟩) (reachL rs ns (x : Int)).length c5) ((reachL rs ns (x : Int)).map fun k : Nat => (k : Int)) ∧ Below w.heap.size w wx ∧ wx.cell? ⟨w.heap.size, 0, none⟩ = some (.slice ra rs.length rc) ∧ wx.cell? ⟨w.heap.size, 1, none⟩ = some (.slice na ns.length nc))
        case first =>
          go_region_with (go_at_call 19; (with_reducible refine (HRA.out _ HWr.out.drew (y : Int)).mono ?_); rintro e w7 ⟨a7, c7, rfl, hi, hb⟩; have HW7 := Lib.hid (HWr.out.drew.trans (hb.mono HWr.out.drew.size)); have HI7 := Lib.hid hi; have HI8 := Lib.hid ((HIr.out.kept (Below.refl _ _).drew (Nat.le_refl _)).kept hb (Nat.le_refl _)); have e0 := (bcell hb).1 _ 0 (lt_of_cell f0); have e1 := (bcell hb).1 _ 1 (lt_of_cell f1); simp only [World.cell?_drew] at e0 e1; rw [f0] at e0; rw [f1] at e1; clear hb hi)
          all_goals go_wp2_with fail
          all_goals
            go_meet
            case rel => exact ⟨_, _, rfl, HI7.out, HI8.out, HW7.out, e0, e1⟩
        case rest =>
        obtain ⟨a7, c7, rfl, hi, hi8, hb, e0, e1⟩ := hcut
        have HW7 := Lib.hid hb
        have HI7 := Lib.hid hi
        have HI8 := Lib.hid hi8
        have hm7 := HLEN.out (y : Int)
        clear hi8 hb f0 f1 HIr HWr cy
        go_wp2_with fail
        go_loopw [8] (fun c wx => ∃ j : Nat, j ≤ (reachL rs ns (y : Int)).length ∧ c = .int .i64 j ∧ wx = wc) (fun c _ => (reachL rs ns (y : Int)).length - (intOf c).toNat)
        case atStart => exact ⟨0, Nat.zero_le _, rfl, rfl⟩
        case round =>
          obtain ⟨j, hj, rfl, rfl⟩ := hrel
          by_cases hjt : j < (reachL rs ns (y : Int)).length
          · have j1 : (j : Int) < ((reachL rs ns (y : Int)).length : Int) := by omega
            have j2 := HNX.out j (by omega)
            obtain ⟨z, hz⟩ : ∃ z, (reachL rs ns (y : Int))[j]? = some z := ⟨_, List.getElem?_eq_getElem hjt⟩
            have HZM := Lib.hid (chain_mem HYM.out (List.mem_of_getElem? hz))
            obtain ⟨a7', c7', he7, h7⟩ := hi
            obtain ⟨rfl, -, rfl⟩ := Value.slice.inj he7
            clear he7
            rcases h7 with h0 | ⟨bb, bo, rfl, hcb⟩
            · rw [List.map_eq_nil_iff] at h0; rw [h0] at hjt; exact absurd hjt (Nat.not_lt_zero _)
            have cz := hcb j (z : Int) (by rw [List.getElem?_map, hz]; rfl)
            clear hcb hz
            go_wp2_with (go_at_call 22; (with_reducible refine (has_int _ _ (z : Int) true _ (HL0.out _) HI8.out (decide_eq_true (mem_cast.2 HZM.out))).mono ?_); rintro e w8 ⟨rfl, rfl⟩)
            go_roundw
            case rel => exact ⟨j + 1, by omega, by go_num, trivial⟩
            case measure => simp [intOf]; omega
          · obtain rfl : j = (reachL rs ns (y : Int)).length := by omega
            have j1 : ¬ ((reachL rs ns (y : Int)).length : Int) < ((reachL rs ns (y : Int)).length : Int) := by omega
            go_wp2
            go_roundw
            case rel => exact ⟨k + 1, by omega, by go_num, HW7.out, HI8.out, e0, e1⟩
            case measure => simp [intOf]; omega
      · obtain rfl : k = (reachL rs ns (x : Int)).length := by omega
        have k1 : ¬ ((reachL rs ns (x : Int)).length : Int) < ((reachL rs ns (x : Int)).length : Int) := by omega
        go_wp2
        go_ret
        exact ⟨rfl, HWr.out⟩
end Go.Proofs.Ytklimoepkifnhaa
