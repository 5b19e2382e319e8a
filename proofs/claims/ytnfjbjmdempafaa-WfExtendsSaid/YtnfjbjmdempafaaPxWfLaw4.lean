/- The law WfExtends. Written by wip/gen/wflaws.py. -/
import Derived.Deep.RegionWith
import Derived.Deep.Cut
import Derived.Maps.AppendAt
import Derived.Test.YtnfjbjmdempafaaPxWR
import Derived.Test.YtnfjbjmdempafaaPxWE
import Derived.Test.YtnfjbjmdempafaaPxFlowLaw0
import Derived.Test.YtnfjbjmdempafaaPxWfReg2
import Derived.Test.YtnfjbjmdempafaaPxWfMore
namespace Go.Proofs.Ytnfjbjmdempafaa
open Go.RowKit
theorem wx_cell {W : World} {b m : Nat} (h : Bl W b 3 #[.int .i64 7, .int .i64 8, .int .i64 9]) (hm : m < 3) : W.cell? ⟨b, m, none⟩ = some (.int .i64 (7 + (m : Int))) := by
  have : m = 0 ∨ m = 1 ∨ m = 2 := by omega
  rcases this with rfl | rfl | rfl
  · exact h.cell (o := 0) rfl
  · exact h.cell (o := 1) rfl
  · exact h.cell (o := 2) rfl
theorem bl_grown {w w' : World} {b : Nat} {t : TypeId} {cs : Array Value} {r : Option Nat} (h : Bl w b t cs) (hg : w.grownBy w' r) (hr : r ≠ some b) : Bl w' b t cs := by
  unfold Bl
  rw [hg.block b h.lt (fun e => hr e.symm)]
  exact h
theorem row_apart_bl {w : World} {base size n X : Nat} {t t' : TypeId} {v : Value} {xs : List Value} {cs : Array Value} (h : w.ownsRow base t size v n xs) (hX : Bl w X t' cs) (ht : t ≠ t') : v.ownBlock ≠ some X := fun e => by
  rcases h.2 with ⟨rfl, -⟩ | ⟨g1, _, _, rfl, -, o1, -⟩
  · cases e
  have e : g1 = X := Option.some.inj e
  subst e
  unfold Bl at hX
  rw [o1] at hX
  injection hX with hX
  injection hX with _ hX
  exact ht hX
set_option maxHeartbeats 16000000 in
set_option maxRecDepth 100000 in
theorem law12_extends (rv nv : Value) (rs : List PR) (ns : List PN) (k1 k2 : Nat) (hk1 : k1 ≤ 255) (hk2 : k2 ≤ 255) (w : World) (hR : RulesIn w rv rs) (hN : NodesAt w nv ns) (hC : CapsAt w nv ns.length) :
    Calls Try.prog 6 #[.agg #[rv, nv], .int .u8 (k1 : Int), .int .u8 (k2 : Int)] w fun e w' => e = .returned (.bool true) ∧ Below w.heap.size w w' := by
  have HS := Lib.hid (fun (W : World) (hb : Below w.heap.size w W) => rsmall_any rv nv rs ns W (hR.kept hb (Nat.le_refl _)) (hN.kept hb (Nat.le_refl _)))
  obtain ⟨na, nc, rfl⟩ : ∃ na nc, nv = .slice na ns.length nc := by obtain ⟨-, na, nc, rfl, -⟩ := hN; exact ⟨na, nc, rfl⟩
  cases hsm : (fewB rs ns && okB (chkL rs ns)) with
  | false =>
    rw [hsm] at HS
    obtain ⟨-, ra, rc, rfl, -⟩ := hR
    clear hsm hN hC hk1 hk2
    go_enter Try.func6, Try.ntmps6
    go_upto_region 2 with (first
      | (go_at_call 7; (with_reducible refine (awake12_any _).mono ?_); rintro e w2 ⟨rfl, hb⟩; have HW := Lib.hid (bl_on (one_new w _) hb); have b0 := (bcell hb).1 w.heap.size 0 (by simp); have b1 := (bcell hb).1 w.heap.size 1 (by simp); simp at b0 b1; clear hb)
      | (go_at_call 8; (with_reducible refine (HS.out _ HW.out).mono ?_); rintro e w3 ⟨rfl, hb⟩; replace HW := Lib.hid (bl_on HW.out hb); clear hb b0 b1))
    go_wp2_with (go_at_call 7; (with_reducible refine (awake12_any _).mono ?_); rintro e w4 ⟨rfl, hb⟩; replace HW := Lib.hid (bl_on HW.out hb); clear hb)
    go_ret
    exact ⟨rfl, HW.out⟩
  | true =>
    obtain ⟨hO, hr0, hr30⟩ := small11 hsm
    have hs := hO.nl
    have hr0' : 0 < ns.length := by
      obtain ⟨x, hx⟩ : ∃ x, rs[0]? = some x := ⟨_, List.getElem?_eq_getElem hr0⟩
      have := root11 hsm hx
      omega
    rw [hsm] at HS
    have HCp := Lib.hid (fun (W : World) (hb : Below w.heap.size w W) => rcopy_any rv _ rs ns W (hR.kept hb (Nat.le_refl _)) (hN.kept hb (Nat.le_refl _)) (by omega) (by omega) (fun n hn => by have := hO.kl n hn; omega))
    have HOf := Lib.hid (fun (W : World) (hb : Below w.heap.size w W) => wof_any rv _ rs ns W (hR.kept hb (Nat.le_refl _)) (hN.kept hb (Nat.le_refl _)) (hC.kept hN rfl hb) hO)
    have HOK := Lib.hid hO
    have h300 : ns.length ≤ 300 := (fewB_yes (Bool.and_eq_true _ _ ▸ hsm).1).2.2.2
    have HRT := Lib.hid (fun (r : Nat) (x : PR) (hx : rs[r]? = some x) => root11 hsm hx)
    have HRI := Lib.hid (fun (W : World) (hb : Below w.heap.size w W) => hR.kept hb (Nat.le_refl _))
    obtain ⟨-, ra, rc, rfl, hra⟩ := hR
    unfold CloneIs at HCp
    unfold OfIs at HOf
    clear hsm hN hC hO
    go_enter Try.func6, Try.ntmps6
    go_upto_region 3 with (first
      | (go_at_call 7; (with_reducible refine (awake12_any _).mono ?_); rintro e w2 ⟨rfl, hb⟩; have HW := Lib.hid (bl_on (one_new w _) hb); have HG := Lib.hid ((Bl.new w 25 #[.slice ra rs.length rc, .slice na ns.length nc]).below hb); have b0 : w2.cell? ⟨w.heap.size, 0, none⟩ = some (.slice ra rs.length rc) := HG.out.cell (o := 0) rfl; have b1 : w2.cell? ⟨w.heap.size, 1, none⟩ = some (.slice na ns.length nc) := HG.out.cell (o := 1) rfl; have lg := HG.out.lt; clear hb)
      | (go_at_call 8; (with_reducible refine (HS.out _ HW.out).mono ?_); rintro e w3 ⟨rfl, hb⟩; replace HW := Lib.hid (bl_on HW.out hb); replace HG := Lib.hid (HG.out.below hb); have d0 : w3.cell? ⟨w.heap.size, 0, none⟩ = some (.slice ra rs.length rc) := HG.out.cell (o := 0) rfl; have d1 : w3.cell? ⟨w.heap.size, 1, none⟩ = some (.slice na ns.length nc) := HG.out.cell (o := 1) rfl; have lg := HG.out.lt; clear hb b0 b1))
    clear HS
    go_wp2
    go_loopw [7] (fun c wx => ∃ t : Nat, t ≤ rs.length ∧ c = .int .i64 (t : Int) ∧ wx = w3) (fun c _ => rs.length - (intOf c).toNat)
    case atStart => exact ⟨0, Nat.zero_le _, by first | rfl | trivial, by first | rfl | trivial⟩
    case round =>
      obtain ⟨t, ht, rfl, hwr⟩ := hrel
      obtain rfl := hwr.symm
      by_cases htl : t < rs.length
      · have t1 : (t : Int) < (rs.length : Int) := by omega
        obtain ⟨x, hx⟩ : ∃ x, rs[t]? = some x := ⟨_, List.getElem?_eq_getElem htl⟩
        rcases hra with h0 | ⟨rb, ro, rfl, hca⟩
        · rw [h0] at htl; exact absurd htl (Nat.not_lt_zero _)
        obtain ⟨c0, c1⟩ := (hca t x hx).kept HW.out (Nat.le_refl _)
        have lr := lt_of_cell c0
        clear hca hx
        go_wp2
        case roundEnd =>
          go_roundw
          case rel => exact ⟨t + 1, by omega, by go_num, by first | rfl | trivial⟩
          case measure => simp [intOf]; omega
        all_goals
          go_ret
          exact ⟨rfl, HW.out⟩
      · obtain rfl : t = rs.length := by omega
        have t1 : ¬ (rs.length : Int) < (rs.length : Int) := by omega
        have hne : ¬ rs = [] := fun e => by rw [e] at hr0; exact absurd hr0 (Nat.lt_irrefl _)
        obtain ⟨rb, ro, hraE, hca⟩ := hra.resolve_left hne
        have HCA := Lib.hid hca
        have HRA := Lib.hid hraE
        clear hra hca hraE
        go_upto_region 10 with (go_at_call 18; (with_reducible refine (HCp.out _ HW.out).mono ?_); rintro e w4 ⟨rv2, nv2, qs, rfl, hql, hor, hon, hoq, hb⟩; obtain ⟨sa, sc, rfl⟩ := own_slice' hor; obtain ⟨ta, tc, rfl⟩ := own_slice' hon; have HOR := Lib.hid hor; have HON := Lib.hid hon; have HOQ := Lib.hid hoq; have HW4 := Lib.hid (bl_on HW.out hb); have HG4 := Lib.hid (HG.out.below hb); have HBC := Lib.hid hb; clear hb hor hon hoq)
        obtain ⟨ie, hie, hze0, hze1, hze2⟩ := info_parts infoNode
        obtain ⟨w5, hw5⟩ : ∃ w5, w4.alloc (.cells #[.slice sa rs.length sc, .slice ta ns.length tc] 25) = w5 := ⟨_, rfl⟩
        have hb5 : Below w4.heap.size w4 w5 := by rw [← hw5]; exact one_new _ _
        have HB5 := Lib.hid (show Bl w5 w4.heap.size 25 #[.slice sa rs.length sc, .slice ta ns.length tc] by rw [← hw5]; exact Bl.new _ _ _)
        have hz5 : w5.heap.size = w4.heap.size + 1 := by rw [← hw5]; simp
        have HOR5 := Lib.hid (ownsRow_grown HOR.out hb5)
        have HON5 := Lib.hid (ownsRow_grown HON.out hb5)
        have HOQ5 := Lib.hid (fun (j : Nat) (n : PN) (q : Value) (h1 : ns[j]? = some n) (h2 : qs[j]? = some q) => ownsRow_grown (HOQ.out j n q h1 h2) hb5)
        have HW5 := Lib.hid (bl_on HW4.out hb5)
        have HG5 := Lib.hid (HG4.out.below hb5)
        have HBC5 := Lib.hid (bl_on HBC.out hb5)
        have hoX := own_block_lt HON.out (Nat.le_refl _)
        have HQX := Lib.hid (fun (j : Nat) (n : PN) (q : Value) (h1 : ns[j]? = some n) (h2 : qs[j]? = some q) => own_block_lt (HOQ.out j n q h1 h2) (Nat.le_refl w4.heap.size))
        have hrX := own_block_lt HOR.out (Nat.le_refl _)
        have hown : ∀ g, (Value.slice ta ns.length tc).ownBlock = some g → g < w5.heap.size := fun g e => by have := (HON.out.lt g e).2; omega
        have hGO : some w.heap.size ≠ (Value.slice ta ns.length tc).ownBlock := fun e => by have := (HON.out.lt _ e.symm).1; have := HG.out.lt; omega
        have hGR : some w.heap.size ≠ (Value.slice sa rs.length sc).ownBlock := fun e => by have := (HOR.out.lt _ e.symm).1; have := HG.out.lt; omega
        have hG4 := HG4.out.lt
        have h34 := HBC.out.size
        have hG3 := HW.out.size
        rw [hw5]
        clear hw5 hb5 HOR HON HOQ HG HG4 HW HW4 HBC HCp d0 d1 lg hwr
        obtain ⟨X, hX⟩ : ∃ X, w4.heap.size = X := ⟨_, rfl⟩
        obtain ⟨B3, hB3⟩ : ∃ B, w3.heap.size = B := ⟨_, rfl⟩
        obtain ⟨B1, hB1e⟩ : ∃ B, w5.heap.size = B := ⟨_, rfl⟩
        obtain ⟨G0, hG0⟩ : ∃ G, w.heap.size = G := ⟨_, rfl⟩
        have HG0 := Lib.hid hG0
        rw [hX] at HB5 hz5 hoX hrX HQX hG4 h34 ⊢
        rw [hB3] at HOR5 HON5 HOQ5 h34 hG3
        rw [hB1e] at hz5 hown
        rw [hG0] at HG5 hGO hGR hG4 hG3 ⊢
        have HB1 := Lib.hid hB1e
        have hX1 : X < B1 := by omega
        have h3B : B3 ≤ B1 := by omega
        have hG1 : G0 < B1 := by omega
        have hGX : G0 ≠ X := by omega
        have hB1 : B1 ≤ w5.drew.heap.size := Nat.le_of_eq hB1e.symm
        obtain ⟨m3, hm3⟩ : ∃ m, k2 % 3 = m := ⟨_, rfl⟩
        obtain ⟨ru, hru⟩ : ∃ m, k1 % rs.length = m := ⟨_, rfl⟩
        have HRU := Lib.hid hru
        have h3n : m3 < 3 := by rw [← hm3]; exact Nat.mod_lt _ (by decide)
        have h3 : (m3 : Int) < 3 := by omega
        have hrul : ru < rs.length := by rw [← hru]; exact Nat.mod_lt _ hr0
        have hmod : (k1 : Int) % (rs.length : Int) = (ru : Int) := by rw [← hru]; first | rfl | exact (Int.natCast_emod _ _).symm | exact (Int.ofNat_emod _ _).symm
        have hrem : (k1 : Int).tmod (rs.length : Int) = (ru : Int) := by rw [Int.tmod_eq_emod_of_nonneg (by omega)]; exact hmod
        have hmod3 : (k2 : Int) % 3 = (m3 : Int) := by omega
        have hrem3 : (k2 : Int).tmod 3 = (m3 : Int) := by rw [Int.tmod_eq_emod_of_nonneg (by omega)]; exact hmod3
        have hNz : ((rs.length : Int) == 0) = false := ibeq_no (by omega)
        have hNz' : ¬ (rs.length : Int) = 0 := by omega
        have vk1 : IntKind.i64.wrap (k1 : Int) = (k1 : Int) := IntWalk.i64_in _ (by omega)
        have vk2 : IntKind.i64.wrap (k2 : Int) = (k2 : Int) := IntWalk.i64_in _ (by omega)
        have hk6 : (k1 : Int) ≤ 255 := by omega
        have hk7 : (0 : Int) ≤ (k1 : Int) := by omega
        have hk8 : (k2 : Int) ≤ 255 := by omega
        have hk9 : (0 : Int) ≤ (k2 : Int) := by omega
        have vru : IntKind.i64.wrap (ru : Int) = (ru : Int) := IntWalk.i64_in _ (by omega)
        have vk3 : IntKind.i64.wrap (m3 : Int) = (m3 : Int) := IntWalk.i64_in _ (by omega)
        obtain ⟨cs, hcs⟩ : ∃ cs, nodesC (ns.zip qs) = cs := ⟨_, rfl⟩
        have HCS := Lib.hid hcs
        rw [hcs] at HON5
        clear hX hB3 hB1e hG0 hcs hmod hmod3 hNz hNz' vru vk3 hk6 hk7 hk8 hk9
        refine wp_region_ix (by kernel_rfl) (WxT B3 B1 X G0 (.slice ta ns.length tc) (.slice ra rs.length rc) rs.length ns.length k1 k2 ru m3 cs) (WxR X (Value.slice ta ns.length tc).ownBlock) (WxS B3 B1 X (.slice sa rs.length sc) (.slice ta ns.length tc) ns.length m3 ru cs w5) (by kernel_rfl) (by kernel_rfl) (by kernel_rfl) (WxT_mono _ _ _ _ _ _ _ _ _ _ _ _ _ hX1 hown) ⟨hB1, h3B, (Below.refl _ _).drew, fun _ _ _ _ => rfl, fun _ => HON5.out, fun _ => HB5.out, fun h => by cases h⟩ ?steps ?done
        case steps =>
          refine ⟨?_, ?_, ?_, ?_, ?_, ?_, ?_, ?_, ?_, ?_, ?_, ?_, ?_, ?_, ?_, ?_, ?_, ?_, ?_, ?_, ?_, ?_, trivial⟩
          · intro L a W hL hj hS hk hd
            have p : a.eval (.tmp 9) = .pointer (some ⟨X, 0, none⟩) := hk 9 (un_none (by kernel_rfl))
            clear hk hd hj
            refine pay_plain rfl ?_
            exact on_value (.pointer (some ⟨X, 1, none⟩)) (by generalize a.eval = ρ at *; simp [go_sem, p]) (rfl) .same (hS.same 0)
          · intro L a W hL hj hS hk hd
            have c1 : W.cell? ⟨X, 1, none⟩ = some (.slice ta ns.length tc) := (hS.box (hj 21 (by kernel_rfl))).cell (o := 1) rfl
            have lx := lt_of_cell c1
            have p : a.eval (.tmp 40) = .pointer (some ⟨X, 1, none⟩) := hd 0 40 (by kernel_rfl)
            clear hk hd hj
            refine pay_plain rfl ?_
            exact on_value (.slice ta ns.length tc) (by generalize a.eval = ρ at *; simp [go_sem, p, c1]) (rfl) .same (hS.same 1)
          · intro L a W hL hj hS hk hd
            have p : a.eval (.tmp 1) = .int .u8 (k1 : Int) := hk 1 (un_none (by kernel_rfl))
            clear hk hd hj
            refine pay_plain rfl ?_
            exact on_value (.int .u8 (k1 : Int)) (by generalize a.eval = ρ at *; simp [go_sem, p]) (rfl) .same (hS.same 2)
          · intro L a W hL hj hS hk hd
            have p : a.eval (.tmp 42) = .int .u8 (k1 : Int) := hd 2 42 (by kernel_rfl)
            clear hk hd hj
            refine pay_plain rfl ?_
            exact on_value (.int .i64 (k1 : Int)) (by generalize a.eval = ρ at *; simp [go_sem, p]; exact vk1) (rfl) .same (hS.same 3)
          · intro L a W hL hj hS hk hd
            have p : a.eval (.tmp 3) = .pointer (some ⟨G0, 0, none⟩) := hk 3 (un_none (by kernel_rfl))
            clear hk hd hj
            refine pay_plain rfl ?_
            exact on_value (.pointer (some ⟨G0, 0, none⟩)) (by generalize a.eval = ρ at *; simp [go_sem, p]) (rfl) .same (hS.same 4)
          · intro L a W hL hj hS hk hd
            have hg : Bl W G0 25 #[.slice ra rs.length rc, .slice na ns.length nc] := by unfold Bl; rw [hS.old _ hG1 hGX hGO]; exact HG5.out
            have c0 : W.cell? ⟨G0, 0, none⟩ = some (.slice ra rs.length rc) := hg.cell (o := 0) rfl
            have lx := lt_of_cell c0
            clear hg
            have p : a.eval (.tmp 44) = .pointer (some ⟨G0, 0, none⟩) := hd 4 44 (by kernel_rfl)
            clear hk hd hj
            refine pay_plain rfl ?_
            exact on_value (.slice ra rs.length rc) (by generalize a.eval = ρ at *; simp [go_sem, p, c0]) (rfl) .same (hS.same 5)
          · intro L a W hL hj hS hk hd
            have p : a.eval (.tmp 45) = .slice ra rs.length rc := hd 5 45 (by kernel_rfl)
            clear hk hd hj
            refine pay_plain rfl ?_
            exact on_value (.int .i64 (rs.length : Int)) (by generalize a.eval = ρ at *; simp [go_sem, p]) (rfl) .same (hS.same 6)
          · intro L a W hL hj hS hk hd
            have p1 : a.eval (.tmp 43) = .int .i64 (k1 : Int) := hd 3 43 (by kernel_rfl)
            have p2 : a.eval (.tmp 46) = .int .i64 (rs.length : Int) := hd 6 46 (by kernel_rfl)
            clear hk hd hj
            refine pay_plain rfl ?_
            exact on_value (.int .i64 (ru : Int)) (by generalize a.eval = ρ at *; simp [go_sem, p1, p2, hrem, hne]) (rfl) .same (hS.same 7)
          · intro L a W hL hj hS hk hd
            have p : a.eval (.tmp 47) = .int .i64 (ru : Int) := hd 7 47 (by kernel_rfl)
            have q2 : a.eval (.const (.int .i64 2)) = .int .i64 2 := rfl
            clear hk hd hj
            refine pay_plain rfl ?_
            exact on_value (.agg #[.int .i64 2, .slice none 0 0, .int .i64 (ru : Int), .int .u64 0, .int .u64 0, .int .u64 0, .int .u64 0]) (by generalize a.eval = ρ at *; simp [go_sem, p, q2]) (rfl) .same (hS.same 8)
          · intro L a W hL hj hS hk hd
            have q7 : a.eval (.const (.int .i64 7)) = .int .i64 7 := rfl
            have q8 : a.eval (.const (.int .i64 8)) = .int .i64 8 := rfl
            have q9 : a.eval (.const (.int .i64 9)) = .int .i64 9 := rfl
            clear hk hd hj
            refine pay_plain rfl ?_
            have hn := hS.size
            exact on_value' (.slice (some ⟨W.heap.size, 0, none⟩) 3 3) (w' := W.alloc (.cells #[.int .i64 7, .int .i64 8, .int .i64 9] 3)) (by generalize a.eval = ρ at *; simp [go_sem, q7, q8, q9]) (⟨_, rfl, Bl.new _ _ _, hn⟩) (.of_below (one_new _ _)) (hS.below (one_new _ _) 9)
          · intro L a W hL hj hS hk hd
            have p : a.eval (.tmp 2) = .int .u8 (k2 : Int) := hk 2 (un_none (by kernel_rfl))
            clear hk hd hj
            refine pay_plain rfl ?_
            exact on_value (.int .u8 (k2 : Int)) (by generalize a.eval = ρ at *; simp [go_sem, p]) (rfl) .same (hS.same 10)
          · intro L a W hL hj hS hk hd
            have p : a.eval (.tmp 50) = .int .u8 (k2 : Int) := hd 10 50 (by kernel_rfl)
            clear hk hd hj
            refine pay_plain rfl ?_
            exact on_value (.int .i64 (k2 : Int)) (by generalize a.eval = ρ at *; simp [go_sem, p]; exact vk2) (rfl) .same (hS.same 11)
          · intro L a W hL hj hS hk hd
            have p : a.eval (.tmp 51) = .int .i64 (k2 : Int) := hd 11 51 (by kernel_rfl)
            have q3 : a.eval (.const (.int .i64 3)) = .int .i64 3 := rfl
            clear hk hd hj
            refine pay_plain rfl ?_
            exact on_value (.int .i64 (m3 : Int)) (by generalize a.eval = ρ at *; simp [go_sem, p, hrem3, q3]) (rfl) .same (hS.same 12)
          · intro L a W hL hj hS hk hd
            obtain ⟨b, p1, hB, hl⟩ := hd 9 49 (by kernel_rfl)
            have p2 : a.eval (.tmp 52) = .int .i64 (m3 : Int) := hd 12 52 (by kernel_rfl)
            clear hk hd hj
            refine pay_plain rfl ?_
            exact on_value (.pointer (some ⟨b, m3, none⟩)) (by generalize a.eval = ρ at *; simp [go_sem, p1, p2, h3]) (⟨b, rfl, hB, hl⟩) .same (hS.same 13)
          · intro L a W hL hj hS hk hd
            obtain ⟨b, p1, hB, hl⟩ := hd 13 53 (by kernel_rfl)
            have c := wx_cell hB h3n
            have lx := lt_of_cell c
            clear hk hd hj
            refine pay_plain rfl ?_
            exact on_value (.int .i64 (7 + (m3 : Int))) (by generalize a.eval = ρ at *; simp [go_sem, p1, c]) (rfl) .same (hS.same 14)
          · intro L a W hL hj hS hk hd
            have p : a.eval (.tmp 8) = .int .i64 (ns.length : Int) := hk 8 (un_none (by kernel_rfl))
            clear hk hd hj
            refine pay_plain rfl ?_
            exact on_value (.int .i64 (ns.length : Int)) (by generalize a.eval = ρ at *; simp [go_sem, p]) (rfl) .same (hS.same 15)
          · intro L a W hL hj hS hk hd
            have p : a.eval (.tmp 55) = .int .i64 (ns.length : Int) := hd 15 55 (by kernel_rfl)
            clear hk hd hj
            refine pay_plain rfl ?_
            have hn := hS.size
            exact on_value' (.slice (some ⟨W.heap.size, 0, none⟩) 1 1) (w' := W.alloc (.cells #[.int .i64 (ns.length : Int)] 3)) (by generalize a.eval = ρ at *; simp [go_sem, p]) (⟨_, rfl, Bl.new _ _ _, hn⟩) (.of_below (one_new _ _)) (hS.below (one_new _ _) 16)
          · intro L a W hL hj hS hk hd
            have p1 : a.eval (.tmp 54) = .int .i64 (7 + (m3 : Int)) := hd 14 54 (by kernel_rfl)
            obtain ⟨b, p2, hB, hl⟩ := hd 16 56 (by kernel_rfl)
            clear hk hd hj
            refine pay_plain rfl ?_
            exact on_value (.agg #[.int .i64 (7 + (m3 : Int)), .slice (some ⟨b, 0, none⟩) 1 1, .int .i64 0, .int .u64 0, .int .u64 0, .int .u64 0, .int .u64 0]) (by generalize a.eval = ρ at *; simp [go_sem, p1, p2]) (⟨b, rfl, hB, hl⟩) .same (hS.same 17)
          · intro L a W hL hj hS hk hd
            have p1 : a.eval (.tmp 48) = .agg #[.int .i64 2, .slice none 0 0, .int .i64 (ru : Int), .int .u64 0, .int .u64 0, .int .u64 0, .int .u64 0] := hd 8 48 (by kernel_rfl)
            obtain ⟨b, p2, hB, hl⟩ := hd 17 57 (by kernel_rfl)
            replace p2 : a.eval (.tmp 57) = .agg #[.int .i64 (7 + (m3 : Int)), .slice (some ⟨b, 0, none⟩) 1 1, .int .i64 0, .int .u64 0, .int .u64 0, .int .u64 0, .int .u64 0] := p2
            clear hk hd hj
            refine pay_plain rfl ?_
            have hn := hS.size
            exact on_value' (.slice (some ⟨W.heap.size, 0, none⟩) 2 2) (w' := W.alloc (.cells #[.int .i64 2, .slice none 0 0, .int .i64 (ru : Int), .int .u64 0, .int .u64 0, .int .u64 0, .int .u64 0, .int .i64 (7 + (m3 : Int)), .slice (some ⟨b, 0, none⟩) 1 1, .int .i64 0, .int .u64 0, .int .u64 0, .int .u64 0, .int .u64 0] 35)) (by generalize a.eval = ρ at *; simp [go_sem, p1, p2]) (⟨b, _, rfl, Bl.new _ _ _, hn, Bl.past hB, hl⟩) (.of_below (one_new _ _)) (hS.below (one_new _ _) 18)
          · intro L a W hL hj hS hk hd
            have p1 : a.eval (.tmp 41) = .slice ta ns.length tc := hd 1 41 (by kernel_rfl)
            obtain ⟨b, E, p2, hE, hEl, hB, hl⟩ := hd 18 58 (by kernel_rfl)
            have hrow := hS.row hL
            have e21 : L 21 = false := hj 21 (by kernel_rfl)
            have hn := hS.size
            clear hk hd hj
            refine pay_plain rfl ?_
            obtain ⟨v', w', hr, h1, h2, -, h4⟩ := run_append_own_at (P := Try.prog) (w := W) B3 23 23 35 ie _ 7 72 Try.underlying23 hie hze0 hze1 hze2 rfl (by decide) (.slice ta ns.length tc) ns.length cs hrow ⟨E, 0, none⟩ 2 2 (n1L ru ++ n2L m3 b) rfl (Bl.news hE) (by simp [n1L, n2L, Value.oneCell']) (by unfold maxLen; omega) (by omega) (by omega)
            obtain ⟨a', c', rfl⟩ := own_slice' h1
            have h5 : (Value.slice a' (ns.length + 2) c').ownBlock ≠ some X := fun e => by rcases h4 with h4 | h4 <;> rw [h4] at e <;> first | exact hoX e | (have := Option.some.inj e; omega)
            exact on_append (.tmp 41) (.tmp 58) 23 rfl p1 p2 hr ⟨b, a', c', rfl, h1, h5, (WxR.of_grown (hb := X) h2).new hB hl hX1 hown, hl⟩ (.of_grown h2) (hS.grown h2 hL e21 hoX)
          · intro L a W hL hj hS hk hd
            have p : a.eval (.tmp 9) = .pointer (some ⟨X, 0, none⟩) := hk 9 (un_none (by kernel_rfl))
            clear hk hd hj
            refine pay_plain rfl ?_
            exact on_value (.pointer (some ⟨X, 1, none⟩)) (by generalize a.eval = ρ at *; simp [go_sem, p]) (rfl) .same (hS.same 20)
          · intro L a W hL hj hS hk hd
            have p1 : a.eval (.tmp 60) = .pointer (some ⟨X, 1, none⟩) := hd 20 60 (by kernel_rfl)
            obtain ⟨b, a', c', p2, h1, h5, hB, hl⟩ := hd 19 59 (by kernel_rfl)
            rw [p2] at h1 h5
            have hXW := hS.box hL
            have c1 : W.cell? ⟨X, 1, none⟩ = some (.slice ta ns.length tc) := hXW.cell (o := 1) rfl
            have cf := hXW.free
            have lx := lt_of_cell c1
            clear hk hd hj
            refine pay_plain rfl ?_
            refine on_skip (w' := W.setCell ⟨X, 1, none⟩ (.slice a' (ns.length + 2) c')) ?_ trivial .store (hS.stored hL h1 h5 hB hl hX1 hoX h34)
            clear hS hXW h1 h5 hB
            generalize a.eval = ρ at *
            simp [go_sem, p1, p2, c1, cf]
        case done =>
          intro vals w6 hv hS
          obtain ⟨LL, hLL, hS⟩ := hS
          obtain ⟨eb, na2, nc2, hX6, hN6, hE6, hEl⟩ := hS.fin (hLL 21 (by simp))
          have HX6 := Lib.hid hX6
          have HN6 := Lib.hid hN6
          have HE6 := Lib.hid hE6
          have HR6 := Lib.hid (hS.keep HOR5.out HB1.out hrX (rows_apart HOR5.out HON5.out (by decide)))
          have HQ6 := Lib.hid (fun (j : Nat) (n : PN) (q : Value) (h1 : ns[j]? = some n) (h2 : qs[j]? = some q) => hS.keep (HOQ5.out j n q h1 h2) HB1.out (HQX.out j n q h1 h2) (rows_apart (HOQ5.out j n q h1 h2) HON5.out (by decide)))
          have HG6 := Lib.hid (show Bl w6 G0 25 #[.slice ra rs.length rc, .slice na ns.length nc] by unfold Bl; rw [hS.old _ hG1 hGX hGO]; exact HG5.out)
          have HW6 := Lib.hid (HW5.out.trans (hS.low.mono (by rw [HG0.out]; omega)))
          have hz6 := hS.size
          have c0 : w6.cell? ⟨X, 0, none⟩ = some (.slice sa rs.length sc) := hX6.cell (o := 0) rfl
          have c1 : w6.cell? ⟨X, 1, none⟩ = some (.slice na2 (ns.length + 2) nc2) := hX6.cell (o := 1) rfl
          have lx := lt_of_cell c0
          simp only [fill, if_true, Act.put, List.setIfInBounds_toArray, List.set_cons_zero, List.set_cons_succ, Nat.zero_add, Nat.reduceAdd]
          obtain ⟨ir, hir, hzr0, hzr1, hzr2⟩ := info_parts infoRule
          clear hv hS hX6 hN6 hE6 hLL HOR5 HON5 HOQ5 HG5 HB5 HQX hrem3 vk1 vk2
          go_upto_region 12 with (at_builtin; (refine wpList_append_own_at _ rfl _ _ 22 rfl B3 48 ir _ 2 24 Try.underlying22 hir hzr0 hzr1 hzr2 rfl (by decide) _ rs.length _ rfl (ownsRow_grown HR6.out (one_new _ _)) ⟨_, 0, none⟩ 1 1 [.string ⟨#[109, 111, 114, 101]⟩, .int .i64 ((ns.length : Int) + 1)] rfl rfl (Bl.news (Bl.new _ 48 _)) (by simp [Value.oneCell']) (by unfold maxLen; omega) (by omega) (by simp; omega) ?_); intro v8 w8 hown' hgrow _ hat; obtain ⟨va, vc, rfl⟩ := own_slice' hown'; have HO8 := Lib.hid hown'; have HG8 := Lib.hid hgrow; have HT8 := Lib.hid hat; have HX8 := Lib.hid (show Bl w8 X 25 #[.slice sa rs.length sc, .slice na2 (ns.length + 2) nc2] from bl_grown (HX6.out.below (one_new _ _)) hgrow hrX); have x0 : w8.cell? ⟨X, 0, none⟩ = some (.slice sa rs.length sc) := HX8.out.cell (o := 0) rfl; have x1 : w8.cell? ⟨X, 1, none⟩ = some (.slice na2 (ns.length + 2) nc2) := HX8.out.cell (o := 1) rfl; have xf := HX8.out.free; have lx8 := lt_of_cell x0; clear hown' hgrow hat c0 c1 lx)
          obtain ⟨w9, hw9⟩ : ∃ w9, w8.setCell ⟨X, 0, none⟩ (.slice va (rs.length + 1) vc) = w9 := ⟨_, rfl⟩
          rw [hw9]
          have hy : Wy X (Value.slice sa rs.length sc).ownBlock w6 w9 := by rw [← hw9]; exact Wy.mk (one_new _ _) HG8.out
          have HG9 := Lib.hid (hy.bl HG6.out hGX hGR)
          have HN9 := Lib.hid (hy.row HN6.out (row_apart_bl HN6.out HX6.out (by decide)) (rows_apart HN6.out HR6.out (by decide)))
          have HQ9 := Lib.hid (fun (j : Nat) (n : PN) (q : Value) (h1 : ns[j]? = some n) (h2 : qs[j]? = some q) => hy.row (HQ6.out j n q h1 h2) (row_apart_bl (HQ6.out j n q h1 h2) HX6.out (by decide)) (rows_apart (HQ6.out j n q h1 h2) HR6.out (by decide)))
          have HE9 := Lib.hid (hy.bl HE6.out (by omega) (fun e => row_apart_bl HR6.out HE6.out (by decide) e.symm))
          have HR9 := Lib.hid (show w9.ownsRow B3 48 2 (.slice va (rs.length + 1) vc) (rs.length + 1) (rulesC rs ++ [.string ⟨#[109, 111, 114, 101]⟩, .int .i64 ((ns.length : Int) + 1)]) by rw [← hw9]; exact (WxR.store (ob := none) (i := 0)).row HO8.out (row_apart_bl HO8.out HX8.out (by decide)) (by decide))
          have HX9 := Lib.hid (show Bl w9 X 25 #[.slice va (rs.length + 1) vc, .slice na2 (ns.length + 2) nc2] by unfold Bl; rw [← hw9, heap_setCell_same w8 X 0 _ 25 _ HX8.out]; simp)
          have hb69 : Below B3 w6 w9 := by rw [← hw9]; exact (((one_new w6 _).mono (by omega)).grown HG8.out (by simp; omega) (fun g e => (HR6.out.lt g e).1)).setCell (p := ⟨X, 0, none⟩) h34 _
          have HW9 := Lib.hid (HW6.out.trans (hb69.mono (by rw [HG0.out]; exact hG3)))
          clear hy hb69 hw9 HG6 HN6 HQ6 HE6 HR6 HX6 HW6 HO8 HG8 HT8 HX8 x0 x1 xf lx8
          obtain ⟨x, hx⟩ : ∃ x, rs[ru]? = some x := ⟨_, List.getElem?_eq_getElem hrul⟩
          have hxr := HRT.out ru x hx
          obtain ⟨j, hj⟩ : ∃ j : Nat, x.root = (j : Int) := ⟨x.root.toNat, by omega⟩
          have hjN : j < ns.length := by omega
          have hO' := more_ok HOK.out h300 hx hxr h3n
          have hrl : (rs ++ [mR ns.length]).length = rs.length + 1 := by simp
          have hR' : RulesIn w9 (.slice va (rs.length + 1) vc) (rs ++ [mR ns.length]) := RulesIn.of_own (base := B3) (by rw [hrl, rulesC_snoc]; exact HR9.out) (by rw [hrl]; unfold maxLen; omega)
          have hnr : NRow B3 (.slice na2 (ns.length + 2) nc2) (ns ++ [mN1 ru, mN2 m3 ns.length]) (qs ++ [.slice none 0 0, .slice (some ⟨eb, 0, none⟩) 1 1]) w9 := by
            refine ⟨by rw [mlen, List.length_append, hql]; rfl, by rw [mlen, nodesC_two hql, HCS.out]; exact HN9.out, fun i n q a b => ?_⟩
            rcases Nat.lt_trichotomy i ns.length with h | h | h
            · rw [List.getElem?_append_left h] at a
              rw [List.getElem?_append_left (by omega)] at b
              exact HQ9.out i n q a b
            · subst h
              rw [mnew0] at a
              cases a
              rw [List.getElem?_append_right (by omega), hql, Nat.sub_self] at b
              cases b
              exact World.ownsRow_nil _ _ _ _
            · obtain rfl : i = ns.length + 1 := by
                have := (List.getElem?_eq_some_iff.1 a).1
                rw [mlen] at this
                omega
              rw [mnew1] at a
              cases a
              rw [List.getElem?_append_right (by omega), hql, Nat.add_sub_cancel_left] at b
              cases b
              exact ⟨rfl, .inr ⟨eb, 1, _, rfl, by omega, HE9.out, Nat.le_refl _, by unfold maxLen; omega, rfl, rfl⟩⟩
          have hN' := hnr.nodes (by rw [mlen]; unfold maxLen; omega) (fun n hn => by have := hO'.kl n hn; unfold maxLen; omega)
          have hC' := hnr.caps
          have HO2 := Lib.hid (fun (W : World) (hb : Below w9.heap.size w9 W) => wof_any _ _ _ _ W (hR'.kept hb (Nat.le_refl _)) (hN'.kept hb (Nat.le_refl _)) (hC'.kept hN' rfl hb) hO')
          have HPR := Lib.hid (fun (i : Nat) (hi : i < ns.length) => more_old HOK.out hO' hi)
          obtain ⟨hnw0, hnw1⟩ := more_new hO' hx hj hjN
          obtain ⟨bj, hbj⟩ : ∃ bj, (wfL rs ns)[j]? = some bj := ⟨_, List.getElem?_eq_getElem (by rw [wfL_len]; exact hjN)⟩
          rw [HPR.out j hjN, hbj] at hnw0 hnw1
          have hl1 := wfL_len rs ns
          unfold OfIs at HO2
          rw [mlen] at HO2
          generalize wfL (rs ++ [mR ns.length]) (ns ++ [mN1 ru, mN2 m3 ns.length]) = l2 at *
          generalize wfL rs ns = l1 at *
          have HNW0 := Lib.hid hnw0
          have HNW1 := Lib.hid hnw1
          have HBJ := Lib.hid hbj
          have HXR := Lib.hid hx
          have g0 : w9.cell? ⟨G0, 0, none⟩ = some (.slice ra rs.length rc) := HG9.out.cell (o := 0) rfl
          have g1 : w9.cell? ⟨G0, 1, none⟩ = some (.slice na ns.length nc) := HG9.out.cell (o := 1) rfl
          have lg := HG9.out.lt
          clear hO' hR' hnr hN' hC' hnw0 hnw1 hbj hx HN9 HQ9 HE9 HR9 HRT HCS HRI
          go_upto_region 14 with (first
            | (go_at_call 15; (with_reducible refine (HOf.out _ HW9.out).mono ?_); rintro e w10 ⟨rfl, hm, hb⟩; have HM1 := Lib.hid hm; have HB10 := Lib.hid hb; have HX10 := Lib.hid (HX9.out.below hb); have HG10 := Lib.hid (HG9.out.below hb); have x0 : w10.cell? ⟨X, 0, none⟩ = some (.slice va (rs.length + 1) vc) := HX10.out.cell (o := 0) rfl; have x1 : w10.cell? ⟨X, 1, none⟩ = some (.slice na2 (ns.length + 2) nc2) := HX10.out.cell (o := 1) rfl; have lx := HX10.out.lt; clear hm hb)
            | (go_at_call 15; (with_reducible refine (HO2.out _ HB10.out).mono ?_); rintro e w11 ⟨rfl, hm, hb⟩; have HM2 := Lib.hid hm; have HM3 := Lib.hid (HM1.out.kept hb (Nat.le_refl _)); have HW11 := Lib.hid (bl_on (bl_on HW9.out HB10.out) hb); have HG11 := Lib.hid (HG10.out.below hb); clear hm hb))
          have hpv : BoolsAt w11 (.slice (some ⟨w10.heap.size + 1, 0, none⟩) ns.length (ns.length + 2)) l1 := by
            refine ⟨some ⟨w10.heap.size + 1, 0, none⟩, ns.length + 2, by rw [hl1], .inr ⟨_, _, rfl, fun i y hy => ?_⟩⟩
            have hi : i < ns.length := by rw [← hl1]; exact (List.getElem?_eq_some_iff.1 hy).1
            obtain ⟨b, o, e1, h⟩ := HM2.out.cell ((HPR.out i hi).trans hy)
            cases e1
            exact h
          have HEq := Lib.hid (eqB_same _ _ l1 w11 (by omega) HM3.out hpv)
          obtain ⟨p1, hp1⟩ : ∃ p, w9.heap.size + 1 = p := ⟨_, rfl⟩
          obtain ⟨p2, hp2⟩ : ∃ p, w10.heap.size + 1 = p := ⟨_, rfl⟩
          rw [hp1] at HM3 HEq ⊢
          rw [hp2] at HM2 HEq ⊢
          have hra2 := HRA.out
          subst hra2
          clear hpv hp1 hp2 HM1 HPR HO2 HOf HX9 HX10 HG9 HG10 HW9 HB10 HRA g0 g1 lg x0 x1 lx
          have hN2 : (ns.length : Int) ≤ (ns.length : Int) + 2 := by omega
          go_upto_region 16 with (go_at_call 19; (with_reducible refine HEq.out.mono ?_); rintro e w12 ⟨rfl, hb⟩; have HM4 := Lib.hid (HM3.out.kept hb (Nat.le_refl _)); have HM5 := Lib.hid (HM2.out.kept hb (Nat.le_refl _)); have HW12 := Lib.hid (bl_on HW11.out hb); have HG12 := Lib.hid (HG11.out.below hb); clear hb)
          have g0 : w12.cell? ⟨G0, 0, none⟩ = some (.slice (some ⟨rb, ro, none⟩) rs.length rc) := HG12.out.cell (o := 0) rfl
          have lg := lt_of_cell g0
          obtain ⟨-, cr⟩ := (HCA.out ru x HXR.out).kept HW12.out (Nat.le_refl _)
          rw [hj] at cr
          have lr := lt_of_cell cr
          obtain ⟨b1, o1, e1, ca⟩ := HM4.out.cell HBJ.out
          cases e1
          rw [Nat.zero_add] at ca
          obtain ⟨b2, o2, e2, cb⟩ := HM5.out.cell HNW0.out
          cases e2
          rw [Nat.zero_add] at cb
          obtain ⟨b3, o3, e3, cc⟩ := HM5.out.cell HNW1.out
          cases e3
          rw [Nat.zero_add] at cc
          have la := lt_of_cell ca
          have lb := lt_of_cell cb
          have hmod : (k1 : Int) % (rs.length : Int) = (ru : Int) := by rw [← HRU.out]; first | rfl | exact (Int.natCast_emod _ _).symm | exact (Int.ofNat_emod _ _).symm
          have hrem : (k1 : Int).tmod (rs.length : Int) = (ru : Int) := by rw [Int.tmod_eq_emod_of_nonneg (by omega)]; exact hmod
          have hNz : ((rs.length : Int) == 0) = false := ibeq_no (by omega)
          have hNz' : ¬ (rs.length : Int) = 0 := by omega
          have vk1 : IntKind.i64.wrap (k1 : Int) = (k1 : Int) := IntWalk.i64_in _ (by omega)
          have hk6 : (k1 : Int) ≤ 255 := by omega
          have hk7 : (0 : Int) ≤ (k1 : Int) := by omega
          have ru1 : (ru : Int) < (rs.length : Int) := by omega
          have j1 : (j : Int) < (ns.length : Int) := by omega
          clear HEq HM3 HM2 HW11 HG11 hxr hj
          go_quiet (fail)
          go_wp2
          go_ret
          exact ⟨rfl, by first | exact HW12.out | exact below_drewN HW12.out | exact (below_drewN HW12.out).drew⟩
end Go.Proofs.Ytnfjbjmdempafaa
