/- The law WfLoops. Written by wip/gen/wflaws.py. -/
import Derived.Deep.RegionWith
import Derived.Deep.Cut
import Derived.Test.YtnfjbjmdempafaaPkWR
import Derived.Test.YtnfjbjmdempafaaPkWE
import Derived.Test.YtnfjbjmdempafaaPkFlowLaw0
namespace Go.Proofs.Ytnfjbjmdempafaa
open Go.RowKit
set_option maxHeartbeats 16000000 in
set_option maxRecDepth 100000 in
theorem law12_loops (rv nv : Value) (rs : List PR) (ns : List PN) (w : World) (hR : RulesIn w rv rs) (hN : NodesAt w nv ns) (hC : CapsAt w nv ns.length) :
    Calls Try.prog 3 #[.agg #[rv, nv]] w fun e w' => e = .returned (.bool true) ∧ Below w.heap.size w w' := by
  have HS := Lib.hid (fun (W : World) (hb : Below w.heap.size w W) => rsmall_any rv nv rs ns W (hR.kept hb (Nat.le_refl _)) (hN.kept hb (Nat.le_refl _)))
  obtain ⟨na, nc, rfl⟩ : ∃ na nc, nv = .slice na ns.length nc := by obtain ⟨-, na, nc, rfl, -⟩ := hN; exact ⟨na, nc, rfl⟩
  cases hsm : (fewB rs ns && okB (chkL rs ns)) with
  | false =>
    rw [hsm] at HS
    obtain ⟨-, ra, rc, rfl, -⟩ := hR
    clear hsm hN hC
    go_enter Try.func3, Try.ntmps3
    go_upto_region 2 with (first
      | (go_at_call 7; (with_reducible refine (awake12_any _).mono ?_); rintro e w2 ⟨rfl, hb⟩; have HW := Lib.hid (bl_on (one_new w _) hb); have b0 := (bcell hb).1 w.heap.size 0 (by simp); have b1 := (bcell hb).1 w.heap.size 1 (by simp); simp at b0 b1; clear hb)
      | (go_at_call 8; (with_reducible refine (HS.out _ HW.out).mono ?_); rintro e w3 ⟨rfl, hb⟩; replace HW := Lib.hid (bl_on HW.out hb); clear hb b0 b1))
    go_wp2_with (go_at_call 7; (with_reducible refine (awake12_any _).mono ?_); rintro e w4 ⟨rfl, hb⟩; replace HW := Lib.hid (bl_on HW.out hb); clear hb)
    go_ret
    exact ⟨rfl, HW.out⟩
  | true =>
    obtain ⟨hO, -, -⟩ := small11 hsm
    rw [hsm] at HS
    have hs := hO.nl
    obtain ⟨ii, hii, hz0, hz1, hz2⟩ := info_parts infoInt
    have HF := Lib.hid (fun (W : World) (hb : Below w.heap.size w W) => r11of_any rv _ rs ns W (hR.kept hb (Nat.le_refl _)) (hN.kept hb (Nat.le_refl _)) hO)
    have HOf := Lib.hid (fun (W : World) (hb : Below w.heap.size w W) => r12of_any rv _ rs ns W (hR.kept hb (Nat.le_refl _)) (hN.kept hb (Nat.le_refl _)) hO)
    have HLp := Lib.hid (fun (W : World) (hb : Below w.heap.size w W) => wloops_any rv _ rs ns W (hR.kept hb (Nat.le_refl _)) (hN.kept hb (Nat.le_refl _)) hO)
    have HOK := Lib.hid hO
    obtain ⟨-, ra, rc, rfl, -⟩ := hR
    obtain ⟨-, na', nc', hnv, hna⟩ := id hN
    injection hnv with e1 e2 e3
    subst e1 e3
    unfold NewF at HF
    unfold RofIs at HOf
    unfold RowIs at HLp
    rw [lfp_length] at HF
    rw [mkL_len] at HOf
    clear hsm hN hC hO e2
    go_enter Try.func3, Try.ntmps3
    go_upto_region 3 with (first
      | (go_at_call 7; (with_reducible refine (awake12_any _).mono ?_); rintro e w2 ⟨rfl, hb⟩; have HW := Lib.hid (bl_on (one_new w _) hb); have HG := Lib.hid ((Bl.new w 25 #[.slice ra rs.length rc, .slice na ns.length nc]).below hb); have b0 : w2.cell? ⟨w.heap.size, 0, none⟩ = some (.slice ra rs.length rc) := HG.out.cell (o := 0) rfl; have b1 : w2.cell? ⟨w.heap.size, 1, none⟩ = some (.slice na ns.length nc) := HG.out.cell (o := 1) rfl; have lg := HG.out.lt; clear hb)
      | (go_at_call 8; (with_reducible refine (HS.out _ HW.out).mono ?_); rintro e w3 ⟨rfl, hb⟩; replace HW := Lib.hid (bl_on HW.out hb); replace HG := Lib.hid (HG.out.below hb); have d0 : w3.cell? ⟨w.heap.size, 0, none⟩ = some (.slice ra rs.length rc) := HG.out.cell (o := 0) rfl; have d1 : w3.cell? ⟨w.heap.size, 1, none⟩ = some (.slice na ns.length nc) := HG.out.cell (o := 1) rfl; have lg := HG.out.lt; clear hb b0 b1))
    clear HS
    go_upto_region 5 with (go_at_call 9; (with_reducible refine (HF.out _ HW.out).mono ?_); rintro e w4 ⟨fa, fc, rfl, hf, hb⟩; have HF4 := Lib.hid hf; have HW4 := Lib.hid (bl_on HW.out hb); have HG4 := Lib.hid (HG.out.below hb); clear hb hf)
    clear d0 d1 lg HW HG HF
    go_wp2
    go_loopw [4, 5] (fun s c wr => ∃ k : Nat, k ≤ ns.length ∧ c = .int .i64 (k : Int) ∧ wr.ownsRow w4.heap.size 3 1 s (idxP (loopW ns (lfp rs ns)) k).length (intsV (idxP (loopW ns (lfp rs ns)) k)) ∧ Below w4.heap.size w4 wr) (fun _ c _ => ns.length - (intOf c).toNat)
    case atStart => exact ⟨0, Nat.zero_le _, rfl, World.ownsRow_nil _ _ _ _, Below.refl _ _⟩
    case round =>
      obtain ⟨k, hk, rfl, ho, hb⟩ := hrel
      obtain ⟨sa, sc, rfl⟩ := own_slice' ho
      have hlen := idxP_len (loopW ns (lfp rs ns)) k
      have hbw := bl_on HW4.out hb
      have HGr := Lib.hid (HG4.out.below hb)
      have d0 : wr.cell? ⟨w.heap.size, 0, none⟩ = some (.slice ra rs.length rc) := HGr.out.cell (o := 0) rfl; have d1 : wr.cell? ⟨w.heap.size, 1, none⟩ = some (.slice na ns.length nc) := HGr.out.cell (o := 1) rfl; have lg := HGr.out.lt
      by_cases hlt : k < ns.length
      · have k1 : (k : Int) < (ns.length : Int) := by omega
        obtain ⟨n, hn⟩ : ∃ n, ns[k]? = some n := ⟨_, List.getElem?_eq_getElem hlt⟩
        rcases hna with h0 | ⟨nb, no, rfl, hca⟩
        · rw [h0] at hlt; exact absurd hlt (Nat.not_lt_zero _)
        obtain ⟨kv, c0, c1, c2, c3, c4, c5, c6, hki, -⟩ := hca k n hn
        have lr := lt_of_cell c0
        obtain ⟨ka, kc, rfl, -⟩ := id hki
        rw [← (bcell hbw).1 _ _ lr] at c0 c1
        have lr2 := lt_of_cell c0
        have hlw := loopW_at (L := lfp rs ns) hn
        have HO := Lib.hid ho
        have HB := Lib.hid hb
        by_cases e56 : n.op = 5 ∨ n.op = 6
        · obtain ⟨x, hx⟩ := (HOK.out.ok n (List.mem_of_getElem? hn)).ok.one (by omega)
          have hx0 : n.kids[0]? = some x := by rw [hx]; rfl
          obtain ⟨j, b, f, rfl, -, -, hf, haf, hj⟩ := kid_ok (l := mkL rs ns 0) (HOK.out.ok n (List.mem_of_getElem? hn)) (mkL_len rs ns 0) (lfp_length rs ns) hx0
          obtain ⟨kb, ko, rfl, kx⟩ := hki.cell hx0
          obtain ⟨fb, fo, rfl, f0, -, -⟩ := (HF4.out.below hb).at hf
          have lk := lt_of_cell kx
          rw [← (bcell hbw).1 _ _ lk, Nat.add_zero] at kx
          have lk2 := lt_of_cell kx
          have lf := lt_of_cell f0
          have j1 : (j : Int) < (ns.length : Int) := by omega
          have k3 : (0 : Int) < (n.kids.length : Int) := by rw [hx]; simp
          have hl5 : loopN (lfp rs ns) n = f.nul := by unfold loopN; rw [hx, decide_eq_true e56]; show (true && (atF _ (j : Int)).nul) = _; rw [haf]; rfl
          rw [hl5] at hlw
          cases hfn : f.nul with
          | true =>
            rw [hfn] at hlw f0
            have HI := Lib.hid (idxP_yes hlw)
            clear hn hb ho hca hki hx hx0 hf haf hlw hl5 hbw
            generalize idxP (loopW ns (lfp rs ns)) k = r at *
            rcases e56 with e | e <;> rw [e] at c0
            all_goals
              go_wp2_with (at_builtin; (refine wpList_append_own _ rfl _ _ 30 rfl w4.heap.size 3 ii _ 1 8 Try.underlying30 hii hz0 hz1 hz2 rfl (by decide) _ r.length _ rfl (ownsRow_grown HO.out (one_new _ _)) ⟨_, 0, none⟩ 1 1 [.int .i64 (k : Int)] rfl rfl (Bl.news (Bl.new _ 3 _)) (by simp [Value.oneCell']) (by unfold maxLen; omega) (by omega) (by have := HB.out.size; simp; omega) ?_; intro v6 w6 hown' hgrow _; have HO6 := Lib.hid hown'; have HB6 := Lib.hid ((bl_new HB.out).grown hgrow (bl_new HB.out).size (fun g e => (HO.out.lt g e).1)); clear hown' hgrow))
              go_roundw
              case rel => exact ⟨k + 1, by omega, by go_num, by rw [HI.out, List.length_append, intsV_append]; exact HO6.out, HB6.out⟩
              case measure => simp [intOf]; omega
          | false =>
            rw [hfn] at hlw f0
            have HI := Lib.hid (idxP_no hlw)
            clear hn hb ho hca hki hx hx0 hf haf hlw hl5 hbw
            rcases e56 with e | e <;> rw [e] at c0
            all_goals
              go_wp2
              go_roundw
              case rel => exact ⟨k + 1, by omega, by go_num, by rw [HI.out]; exact HO.out, HB.out⟩
              case measure => simp [intOf]; omega
        · have q5 : (n.op == 5) = false := ibeq_no (by omega)
          have q6 : (n.op == 6) = false := ibeq_no (by omega)
          have HI := Lib.hid (idxP_no (hlw.trans (by unfold loopN; rw [decide_eq_false e56]; rfl)))
          clear hn hb ho hca hki hlw hbw
          go_wp2
          go_roundw
          case rel => exact ⟨k + 1, by omega, by go_num, by rw [HI.out]; exact HO.out, HB.out⟩
          case measure => simp [intOf]; omega
      · obtain rfl : k = ns.length := by omega
        have k1 : ¬ (ns.length : Int) < (ns.length : Int) := by omega
        have HO := Lib.hid ho
        have HI := Lib.hid (IntsAt.of_own ho)
        have HBW := Lib.hid hbw
        have hall : ∀ (t : Nat) (x : Int), (idxP (loopW ns (lfp rs ns)) ns.length)[t]? = some x → ∃ i : Nat, x = (i : Int) ∧ i < ns.length ∧ (mkL rs ns (ns.length + 1))[i]? = some false := fun t x hx => by
          obtain ⟨i, hi, rfl⟩ := List.mem_map.1 (List.mem_of_getElem? hx)
          obtain ⟨h1, h2⟩ := List.mem_filter.1 hi
          have h3 := List.mem_range.1 h1
          refine ⟨i, rfl, h3, ?_⟩
          rw [mkL_at h3]
          show some (_ && !loopW ns (lfp rs ns) i) = _
          rw [h2, Bool.not_true, Bool.and_false]
        have HA := Lib.hid hall
        clear ho hb hall hbw
        generalize idxP (loopW ns (lfp rs ns)) ns.length = r at *
        go_upto_region 11 with (go_at_call 10; (with_reducible refine (HOf.out _ HBW.out).mono ?_); rintro e w5 ⟨oa, oc, rfl, hm, hb⟩; have HM := Lib.hid hm; have HI5 := Lib.hid (HI.out.kept hb (Nat.le_refl _)); have HB5 := Lib.hid (bl_on HBW.out hb); have HG5 := Lib.hid (HGr.out.below hb); have d0 : w5.cell? ⟨w.heap.size, 0, none⟩ = some (.slice ra rs.length rc) := HG5.out.cell (o := 0) rfl; have d1 : w5.cell? ⟨w.heap.size, 1, none⟩ = some (.slice na ns.length nc) := HG5.out.cell (o := 1) rfl; have lg := HG5.out.lt; clear hb hm)
        go_wp2
        go_loopw [7] (fun c wx => ∃ t : Nat, t ≤ r.length ∧ c = .int .i64 (t : Int) ∧ wx = w5) (fun c _ => r.length - (intOf c).toNat)
        case atStart => exact ⟨0, Nat.zero_le _, by first | rfl | trivial, by first | rfl | trivial⟩
        case round =>
          obtain ⟨t, ht, rfl, hwr⟩ := hrel
          obtain rfl := hwr.symm
          by_cases htl : t < r.length
          · have t1 : (t : Int) < (r.length : Int) := by omega
            obtain ⟨x, hx⟩ : ∃ x, r[t]? = some x := ⟨_, List.getElem?_eq_getElem htl⟩
            obtain ⟨i, rfl, hi, hmi⟩ := HA.out t x hx
            obtain ⟨rb, ro, rfl, rx⟩ := HI5.out.cell hx
            obtain ⟨ob, oo, rfl, ox⟩ := HM.out.cell hmi
            have l1 := lt_of_cell rx
            have l2 := lt_of_cell ox
            have i1 : (i : Int) < (ns.length : Int) := by omega
            clear hx hmi
            go_wp2
            go_roundw
            case rel => exact ⟨t + 1, by omega, by go_num, by first | rfl | trivial⟩
            case measure => simp [intOf]; omega
          · obtain rfl : t = r.length := by omega
            have t1 : ¬ (r.length : Int) < (r.length : Int) := by omega
            go_wp2_with (first
              | (go_at_call 12; (with_reducible refine (HLp.out _ HB5.out).mono ?_); rintro e w6 ⟨v6, rfl, ho, hb⟩; have HI6 := Lib.hid (IntsAt.of_own ho); have HJ6 := Lib.hid (HI5.out.kept hb (Nat.le_refl _)); have HB6 := Lib.hid (bl_on HB5.out hb); clear hb ho)
              | (go_at_call 11; (with_reducible refine (eqI_same _ _ r _ (by unfold maxLen; omega) HI6.out HJ6.out).mono ?_); rintro e w7 ⟨rfl, hb⟩; have HB7 := Lib.hid (bl_on HB6.out hb); clear hb))
            go_ret
            exact ⟨rfl, HB7.out⟩
end Go.Proofs.Ytnfjbjmdempafaa
