/- The law MeasureCallers. -/
import Derived.Test.YtklimoepkifnhaaMeasLawChain
import Derived.Test.YtklimoepkifnhaaGramFew
import Derived.Deep.CutRange
namespace Go.Proofs.Ytklimoepkifnhaa
open Go.RowKit
theorem callers_in {ns : List PN} {r : Int} {i : Nat} (h : i ∈ callersL ns r) : ∃ n, ns[i]? = some n ∧ n.op = 2 ∧ n.rule = r := by
  unfold callersL at h
  obtain ⟨h1, h2⟩ := memb_mem.1 h
  obtain ⟨n, hn⟩ : ∃ n, ns[i]? = some n := ⟨_, List.getElem?_eq_getElem h1⟩
  rw [isCall_at hn, Bool.and_eq_true] at h2
  exact ⟨n, hn, of_decide_eq_true h2.1, of_decide_eq_true h2.2⟩
theorem callers_none {ns : List PN} {R : Nat} (h : ∀ (i : Nat) (n : PN), ns[i]? = some n → n.op = 2 → 0 ≤ n.rule ∧ n.rule < (R : Int)) {r : Int} (hr : r < 0 ∨ (R : Int) ≤ r) : callersL ns r = [] := by
  apply List.eq_nil_iff_forall_not_mem.2
  intro i hi
  obtain ⟨n, hn, h1, h2⟩ := callers_in hi
  have := h i n hn h1
  omega
theorem caller_reach {rs : List PR} {ns : List PN} {r i : Nat} (hord : ordR ns rs (-1) = true) (hr : r < rs.length) (hi : i ∈ callersL ns (r : Int)) : r ∈ reachL rs ns (ownL rs (i : Int) : Int) := by
  obtain ⟨n, hn, h1, h2⟩ := callers_in hi
  have hlt : i < ns.length := (List.getElem?_eq_some_iff.1 hn).1
  exact mem_reachL.2 ⟨(ownL_ord rs (-1) (by omega) hord (i : Int) (by omega) (by omega)).1, hr, .call .here ⟨i, n, hn, h1, rfl, h2⟩⟩
theorem sumR_le {f : Nat → Nat} {B : Nat} (h : ∀ i, f i ≤ B) : ∀ k, sumR f k ≤ k * B
  | 0 => by simp [sumR]
  | k + 1 => by
    have h1 := sumR_le h k
    have h2 := h k
    show sumR f k + f k ≤ (k + 1) * B
    rw [Nat.succ_mul]; omega
def callN (ns : List PN) (r : Nat) : Nat := sumR (fun r => (callersL ns (r : Int)).length) r
theorem callN_succ (ns : List PN) (r : Nat) : callN ns (r + 1) = callN ns r + (callersL ns (r : Int)).length := rfl
set_option maxHeartbeats 8000000 in
set_option maxRecDepth 100000 in
theorem law7_callers (rv nv : Value) (rs : List PR) (ns : List PN) (w : World) (hR : RulesIn w rv rs) (hN : NodesAt w nv ns) (hcap : ∀ a n cap, nv = .slice a n cap → n ≤ cap) :
    Calls Try.prog 6 #[.agg #[rv, nv]] w fun e w' => e = .returned (.bool true) ∧ Below w.heap.size w w' := by
  have HS := Lib.hid (fun (W : World) (hb : Below w.heap.size w W) => rsmall_any rv nv rs ns W (hR.kept hb (Nat.le_refl _)) (hN.kept hb (Nat.le_refl _)))
  cases hsm : (fewB rs ns && okB (chkL rs ns)) with
  | false =>
    rw [hsm] at HS
    obtain ⟨-, ra, rc, rfl, -⟩ := hR
    obtain ⟨-, na, nc, rfl, -⟩ := hN
    clear hsm hcap
    go_enter Try.func6, Try.ntmps6
    go_upto_region 2 with (first
      | (go_at_call 8; (with_reducible refine (awake7_any _).mono ?_); rintro e w2 ⟨rfl, hb⟩; have HW := Lib.hid ((one_new w _).trans (hb.mono (one_new w _).size)); have b0 := (bcell hb).1 w.heap.size 0 (by simp); have b1 := (bcell hb).1 w.heap.size 1 (by simp); simp at b0 b1; clear hb)
      | (go_at_call 9; (with_reducible refine (HS.out _ HW.out).mono ?_); rintro e w3 ⟨rfl, hb⟩; replace HW := Lib.hid (HW.out.trans (hb.mono HW.out.size)); clear hb))
    go_wp2_with (go_at_call 8; (with_reducible refine (awake7_any _).mono ?_); rintro e w4 ⟨rfl, hb⟩; replace HW := Lib.hid (HW.out.trans (hb.mono HW.out.size)); clear hb)
    go_ret
    exact ⟨rfl, HW.out⟩
  | true =>
    have hS := small7 hsm
    have hord := hS.ord
    have hfw : fewB rs ns = true := by rw [Bool.and_eq_true] at hsm; exact hsm.1
    have hok : chkL rs ns = .ok := okB_ok (by rw [Bool.and_eq_true] at hsm; exact hsm.2)
    rw [hsm] at HS
    obtain ⟨-, -, -, -, hgood, -, hdep⟩ := chkL_ok hok
    have hex := ordR_ex hord
    have hop : ∀ n, n ∈ ns → 0 ≤ n.op ∧ n.op ≤ 9 := fun n hn => by have := made_kind (good_mem hgood hn); exact ⟨this.1, this.2.1⟩
    have hrl := hS.rl
    have hnl := hS.nl
    have hr0 := hS.r0
    have hn0 : 0 < ns.length := by have := kids_rules hord; omega
    obtain ⟨na, nc, rfl⟩ : ∃ na nc, nv = .slice na ns.length nc := by obtain ⟨-, na, nc, rfl, -⟩ := hN; exact ⟨na, nc, rfl⟩
    obtain ⟨ra, rc, rfl⟩ : ∃ ra rc, rv = .slice ra rs.length rc := by obtain ⟨-, ra, rc, rfl, -⟩ := hR; exact ⟨ra, rc, rfl⟩
    have HRA := Lib.hid (fun (W : World) (hb : Below w.heap.size w W) (r : Int) => reach7 hS hR hN (hcap _ _ _ rfl) W hb r)
    have HCA := Lib.hid (fun (W : World) (hb : Below w.heap.size w W) (r : Int) => (callers_any ra rs.length rc (.slice na ns.length nc) ns r W (hN.kept hb (Nat.le_refl _)) (by omega)).mono fun _ _ h => h.row)
    have HOW := Lib.hid (fun (W : World) (hb : Below w.heap.size w W) (i : Nat) (hi : i < ns.length) => rowner_any (.slice ra rs.length rc) na ns.length nc rs (i : Int) W (hR.kept hb (Nat.le_refl _)) (-1) (ordR_up rs (-1) hord) (ownL_ord rs (-1) (by omega) hord (i : Int) (by omega) (by omega)).1)
    have HO2 := Lib.hid (fun (W : World) (hb : Below w.heap.size w W) => r7of_any ra rc rs.length (.slice na ns.length nc) ns W (hN.kept hb (Nat.le_refl _)) (by omega) hex.kids hop hdep)
    have hO : callN ns rs.length = opN ns 2 := callers_sum hS.call
    have HOQ := Lib.hid hO
    have HLEN := Lib.hid (fun r : Int => show ((reachL rs ns r).map fun k : Nat => (k : Int)).length ≤ 1000000 by rw [List.length_map]; have h1 := reachL_len rs ns r; omega)
    have HCL := Lib.hid (fun r : Int => show (callersL ns r).length ≤ 300 by unfold callersL; have h1 := memb_len (isCall ns r) ns.length; omega)
    have HCN := Lib.hid (fun k : Nat => show callN ns k ≤ k * 300 from sumR_le (fun i => HCL.out (i : Int)) k)
    have HCZ := Lib.hid (fun (r : Int) (h : r < 0 ∨ (rs.length : Int) ≤ r) => callers_none hS.call h)
    have HRE := Lib.hid (fun (r i : Nat) (hr : r < rs.length) (hi : i ∈ callersL ns (r : Int)) => caller_reach hord hr hi)
    obtain ⟨-, na', nc', he, ha⟩ := hN
    obtain ⟨rfl, -, rfl⟩ := Value.slice.inj he
    clear he
    rcases ha with h0 | ⟨nb, no, rfl, hca⟩
    · rw [h0] at hn0; exact absurd hn0 (Nat.lt_irrefl _)
    have HCAL := Lib.hid hca
    have HZ1 := Lib.hid (fun (W : World) (hb : Below w.heap.size w W) => show Calls Try.prog 21 #[.agg #[.slice ra rs.length rc, .slice (some ⟨nb, no, none⟩) ns.length nc], .int .i64 (-1)] W (fun e w' => ∃ a c, e = .returned (.slice a 0 c) ∧ Below W.heap.size W w') from (HCA.out W hb (-1)).mono fun e w' h => by
      rw [HCZ.out (-1) (.inl (by omega))] at h
      obtain ⟨a, c, h1, -, h2⟩ := h
      exact ⟨a, c, h1, h2⟩)
    have HZ2 := Lib.hid (fun (W : World) (hb : Below w.heap.size w W) => show Calls Try.prog 21 #[.agg #[.slice ra rs.length rc, .slice (some ⟨nb, no, none⟩) ns.length nc], .int .i64 (rs.length : Int)] W (fun e w' => ∃ a c, e = .returned (.slice a 0 c) ∧ Below W.heap.size W w') from (HCA.out W hb (rs.length : Int)).mono fun e w' h => by
      rw [HCZ.out (rs.length : Int) (.inr (by omega))] at h
      obtain ⟨a, c, h1, -, h2⟩ := h
      exact ⟨a, c, h1, h2⟩)
    generalize maxL (depsL ns) = D at HO2
    generalize leafN ns = LF at HO2
    generalize opN ns = o at HO2 HOQ
    unfold sizesV at HO2
    unfold ReachIs at HRA
    clear hsm hcap hS hR hca hord hfw hok hgood hdep hex hop hO
    go_enter Try.func6, Try.ntmps6
    go_wp2_with (first
      | (go_at_call 8; (with_reducible refine (awake7_any _).mono ?_); rintro e w2 ⟨rfl, hb⟩; have HW := Lib.hid ((one_new w _).trans (hb.mono (one_new w _).size)); have b0 := (bcell hb).1 w.heap.size 0 (by simp); have b1 := (bcell hb).1 w.heap.size 1 (by simp); simp at b0 b1; clear hb)
      | (go_at_call 9; (with_reducible refine (HS.out _ HW.out).mono ?_); rintro e w3 ⟨rfl, hb⟩; replace HW := Lib.hid (HW.out.trans (hb.mono HW.out.size)); have d0 := (bcell hb).1 _ 0 (lt_of_cell b0); have d1 := (bcell hb).1 _ 1 (lt_of_cell b1); rw [b0] at d0; rw [b1] at d1; clear hb b0 b1))
    go_loopw [4, 3] (fun c s wr => ∃ r : Nat, r ≤ rs.length ∧ c = .int .i64 r ∧ s = .int .i64 (callN ns r : Nat) ∧ Below w.heap.size w wr ∧ wr.cell? ⟨w.heap.size, 0, none⟩ = some (.slice ra rs.length rc) ∧ wr.cell? ⟨w.heap.size, 1, none⟩ = some (.slice (some ⟨nb, no, none⟩) ns.length nc)) (fun c _ _ => rs.length - (intOf c).toNat)
    case atStart => exact ⟨0, Nat.zero_le _, rfl, rfl, HW.out, d0, d1⟩
    case round =>
      obtain ⟨r, hr, rfl, rfl, hb, f0, f1⟩ := hrel
      have HWr := Lib.hid hb
      clear hb HW d0 d1
      by_cases hlt : r < rs.length
      · have k1 : (r : Int) < (rs.length : Int) := by omega
        have h2 := HCN.out r
        have hcl := HCL.out (r : Int)
        have hnx : IntKind.i64.wrap ((callN ns r : Int) + ((callersL ns (r : Int)).length : Int)) = (callN ns (r + 1) : Int) := by
          rw [callN_succ]
          have : IntKind.i64.wrap ((callN ns r : Int) + ((callersL ns (r : Int)).length : Int)) = (callN ns r : Int) + ((callersL ns (r : Int)).length : Int) := IntWalk.i64_in _ (by omega)
          rw [this]; omega
        have HIN := Lib.hid (fun (i : Nat) (hi : i ∈ callersL ns (r : Int)) => callers_in hi)
        have HRR := Lib.hid (fun (i : Nat) (hi : i ∈ callersL ns (r : Int)) => HRE.out r i hlt hi)
        have HUP := Lib.hid (fun (i j x y : Nat) (hij : i < j) (hx : (callersL ns (r : Int))[i]? = some x) (hy : (callersL ns (r : Int))[j]? = some y) => memb_up (isCall ns (r : Int)) ns.length i j x y hij hx hy)
        have HC1 := Lib.hid (fun (W : World) (hb : Below w.heap.size w W) => HCA.out W hb (r : Int))
        have hr1 : IntKind.i64.wrap ((r : Int) + 1) = ((r + 1 : Nat) : Int) := by rw [IntWalk.i64_in _ (by omega)]; omega
        obtain ⟨s1, hs1⟩ : ∃ s1, callN ns (r + 1) = s1 := ⟨_, rfl⟩
        rw [hs1] at hnx
        have HS1 := Lib.hid hs1
        clear hs1
        generalize callN ns r = s0 at *
        generalize callersL ns (r : Int) = L at *
        clear h2
        go_wp2_with (go_at_call 21; (with_reducible refine (HC1.out _ HWr.out).mono ?_); rintro e w7 ⟨a5, c5, rfl, hi, hb⟩; have HW7 := Lib.hid (HWr.out.trans (hb.mono HWr.out.size)); have HI7 := Lib.hid hi; have e0 := (bcell hb).1 _ 0 (lt_of_cell f0); have e1 := (bcell hb).1 _ 1 (lt_of_cell f1); rw [f0] at e0; rw [f1] at e1; clear hb hi f0 f1)
        go_loopw [6] (fun c wx => ∃ j : Nat, j ≤ L.length ∧ c = .int .i64 j ∧ Below w7.heap.size w7 wx) (fun c _ => L.length - (intOf c).toNat)
        case atStart => exact ⟨0, Nat.zero_le _, rfl, Below.refl _ _⟩
        case round =>
          obtain ⟨j, hj, rfl, hbx⟩ := hrel
          have HWx := Lib.hid (HW7.out.trans (hbx.mono HW7.out.size))
          have HB7 := Lib.hid hbx
          by_cases hjt : j < L.length
          · have j1 : (j : Int) < (L.length : Int) := by omega
            have j0 : ¬ (j : Int) < 0 := by omega
            have j2 : IntKind.i64.wrap ((j : Int) + 1) = ((j + 1 : Nat) : Int) := by rw [IntWalk.i64_in _ (by omega)]; omega
            obtain ⟨i, hi⟩ : ∃ i, L[j]? = some i := ⟨_, List.getElem?_eq_getElem hjt⟩
            obtain ⟨n, hn, hn2, hnr⟩ := HIN.out i (List.mem_of_getElem? hi)
            have hil : i < ns.length := (List.getElem?_eq_some_iff.1 hn).1
            have i1 : ¬ (i : Int) < 0 := by omega
            have i2 : ¬ (ns.length : Int) ≤ (i : Int) := by omega
            have i3 : (i : Int) < (ns.length : Int) := by omega
            have HRI := Lib.hid (HRR.out i (List.mem_of_getElem? hi))
            obtain ⟨a5', c5', he5, h5⟩ := HI7.out.kept hbx (Nat.le_refl _)
            obtain ⟨rfl, -, rfl⟩ := Value.slice.inj he5
            clear he5
            rcases h5 with h0 | ⟨ab, ao, rfl, hca⟩
            · rw [List.map_eq_nil_iff] at h0; rw [h0] at hjt; exact absurd hjt (Nat.not_lt_zero _)
            have cj := hca j (i : Int) (by rw [List.getElem?_map, hi]; rfl)
            obtain ⟨kv, n0, n1, n2, n3, n4, n5, n6, ni, -⟩ := (HCAL.out i n hn).kept HWx.out (Nat.le_refl _)
            have g0 : wr.cell? ⟨w.heap.size, 0, none⟩ = some (.slice ra rs.length rc) := by rw [(bcell hbx).1 _ _ (lt_of_cell e0)]; exact e0
            have g1 : wr.cell? ⟨w.heap.size, 1, none⟩ = some (.slice (some ⟨nb, no, none⟩) ns.length nc) := by rw [(bcell hbx).1 _ _ (lt_of_cell e1)]; exact e1
            rw [hn2] at n0
            rw [hnr] at n2
            have q2 : ((r : Int) != (r : Int)) = false := by simp
            clear hn
            go_upto_region 12 with fail
            go_cut [90] from 35 to 101 (fun b wx => b = .bool false ∧ Below wr.heap.size wr wx)
            case first =>
              by_cases hj0 : 0 < j
              · obtain ⟨i', hi'⟩ : ∃ i', L[j - 1]? = some i' := ⟨_, List.getElem?_eq_getElem (by omega)⟩
                have cj' := hca (j - 1) (i' : Int) (by rw [List.getElem?_map, hi']; rfl)
                have hup := HUP.out (j - 1) j i' i (by omega) hi' hi
                have i4 : ¬ (i : Int) ≤ (i' : Int) := by omega
                have j3 : (0 : Int) < (j : Int) := by omega
                obtain ⟨jp, hjp⟩ : ∃ jp, j - 1 = jp := ⟨_, rfl⟩
                rw [hjp] at cj' hi'
                have j4 : IntKind.i64.wrap ((j : Int) - 1) = (jp : Int) := by rw [IntWalk.i64_in _ (by omega)]; omega
                have j5 : (jp : Int) < (L.length : Int) := by omega
                have j6 : ¬ (jp : Int) < 0 := by omega
                clear hca hi hi' hup hjp
                go_quiet (fail)
                go_wp2_with fail
                go_meet
                case rel => exact ⟨rfl, below_drewN (Below.refl _ _)⟩
              · have j3 : ¬ (0 : Int) < (j : Int) := by omega
                clear hca hi
                go_quiet (fail)
                go_wp2_with fail
                go_meet
                case rel => exact ⟨rfl, below_drewN (Below.refl _ _)⟩
            case rest =>
            obtain ⟨rfl, hb⟩ := hcut
            have HWc := Lib.hid (HWx.out.trans (hb.mono HWx.out.size))
            have HBc := Lib.hid (HB7.out.trans (hb.mono HB7.out.size))
            have dj := (bcell hb).1 _ (ao + j) (lt_of_cell cj)
            have d0 := (bcell hb).1 _ 0 (lt_of_cell g0)
            have d1 := (bcell hb).1 _ 1 (lt_of_cell g1)
            rw [cj] at dj
            rw [g0] at d0
            rw [g1] at d1
            clear hb cj g0 g1 n0 n1 n2 n3 n4 n5 n6 ni hca
            go_upto_region 14 with fail
            go_cut [101] from 91 to 101 (fun b wx => b = .bool false ∧ Below wc.heap.size wc wx)
            case first =>
              go_region_with (first
                | (go_at_call 23; (with_reducible refine (HOW.out _ HWc.out.drew i hil).mono ?_); rintro e w8 ⟨rfl, hb⟩; have HW8 := Lib.hid (HWc.out.drew.trans (hb.mono HWc.out.drew.size)); have HB8 := Lib.hid ((Below.refl wc.heap.size wc).drew.trans hb); have h0 := (bcell hb).1 _ 0 (lt_of_cell d0); have h1 := (bcell hb).1 _ 1 (lt_of_cell d1); simp only [World.cell?_drew] at h0 h1; rw [d0] at h0; rw [d1] at h1; clear hb)
                | (go_at_call 19; (with_reducible refine (HRA.out _ HW8.out (ownL rs (i : Int) : Int)).mono ?_); rintro e w9 ⟨a9, c9, rfl, hi9, hb⟩; have HB9 := Lib.hid (HB8.out.trans (hb.mono HB8.out.size)); have HI9 := Lib.hid hi9; clear hb hi9)
                | (go_at_call 22; (with_reducible refine (has_int _ _ (r : Int) true _ (HLEN.out _) HI9.out (decide_eq_true (mem_cast.2 HRI.out))).mono ?_); rintro e w10 ⟨rfl, rfl⟩))
              all_goals go_wp2_with fail
              all_goals
                go_meet
                case rel => exact ⟨rfl, HB9.out⟩
            case rest =>
            obtain ⟨rfl, hb⟩ := hcut
            have HBe := Lib.hid (HBc.out.trans (hb.mono HBc.out.size))
            clear hb dj d0 d1
            go_wp2
            go_roundw
            case rel => exact ⟨j + 1, by omega, by go_num, HBe.out⟩
            case measure => simp [intOf]; omega
          · obtain rfl : j = L.length := by omega
            have j1 : ¬ (L.length : Int) < (L.length : Int) := by omega
            go_wp2
            go_roundw
            case rel => exact ⟨r + 1, by omega, by go_num, by rw [HS1.out], HWx.out, by rw [(bcell HB7.out).1 _ _ (lt_of_cell e0)]; exact e0, by rw [(bcell HB7.out).1 _ _ (lt_of_cell e1)]; exact e1⟩
            case measure => simp [intOf]; omega
      · obtain rfl : r = rs.length := by omega
        have k1 : ¬ (rs.length : Int) < (rs.length : Int) := by omega
        have q1 : ((callN ns rs.length : Int) == (o 2 : Int)) = true := by rw [HOQ.out]; simp
        have hfl : ∀ W : World, Sem.run Try.prog (Instr.field 38 (Value.agg #[.int .i64 (rs.length : Int), .int .i64 (ns.length : Int), .int .i64 (D : Int), .int .i64 (LF : Int), .int .i64 (o 0 : Int), .int .i64 (o 1 : Int), .int .i64 (o 2 : Int), .int .i64 (o 3 : Int), .int .i64 (o 4 : Int), .int .i64 (o 5 : Int), .int .i64 (o 6 : Int), .int .i64 (o 7 : Int), .int .i64 (o 8 : Int), .int .i64 (o 9 : Int)]) 4) W = .ok (Value.agg #[.int .i64 (o 0 : Int), .int .i64 (o 1 : Int), .int .i64 (o 2 : Int), .int .i64 (o 3 : Int), .int .i64 (o 4 : Int), .int .i64 (o 5 : Int), .int .i64 (o 6 : Int), .int .i64 (o 7 : Int), .int .i64 (o 8 : Int), .int .i64 (o 9 : Int)]) W := fun _ => rfl
        have hfi : ∀ W : World, Sem.run Try.prog (Instr.index 28 (Value.agg #[.int .i64 (o 0 : Int), .int .i64 (o 1 : Int), .int .i64 (o 2 : Int), .int .i64 (o 3 : Int), .int .i64 (o 4 : Int), .int .i64 (o 5 : Int), .int .i64 (o 6 : Int), .int .i64 (o 7 : Int), .int .i64 (o 8 : Int), .int .i64 (o 9 : Int)]) (.int .i64 2)) W = .ok (.int .i64 (o 2 : Int)) W := fun _ => rfl
        go_wp2_with (first
          | (go_at_call 11; (with_reducible refine (HO2.out _ HWr.out).mono ?_); rintro e w8 ⟨rfl, hb⟩; replace HWr := Lib.hid (HWr.out.trans (hb.mono HWr.out.size)); have e0 := (bcell hb).1 _ 0 (lt_of_cell f0); have e1 := (bcell hb).1 _ 1 (lt_of_cell f1); rw [f0] at e0; rw [f1] at e1; clear hb f0 f1)
          | (go_at_call 21; (with_reducible refine (HZ1.out _ HWr.out).mono ?_); rintro e w9 ⟨a9, c9, rfl, hb⟩; replace HWr := Lib.hid (HWr.out.trans (hb.mono HWr.out.size)); have d0 := (bcell hb).1 _ 0 (lt_of_cell e0); have d1 := (bcell hb).1 _ 1 (lt_of_cell e1); rw [e0] at d0; rw [e1] at d1; clear hb e0 e1)
          | (go_at_call 21; (with_reducible refine (HZ2.out _ HWr.out).mono ?_); rintro e w9 ⟨a9, c9, rfl, hb⟩; replace HWr := Lib.hid (HWr.out.trans (hb.mono HWr.out.size)); clear hb))
        go_ret
        exact ⟨rfl, HWr.out⟩
end Go.Proofs.Ytklimoepkifnhaa
