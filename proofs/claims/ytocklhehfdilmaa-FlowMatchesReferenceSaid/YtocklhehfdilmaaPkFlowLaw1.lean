/- The law FlowMatchesReference. -/
import Derived.Deep.RegionHeld3
import Derived.Deep.Cut
import Derived.Test.YtocklhehfdilmaaPkFlowAw
import Derived.Test.YtocklhehfdilmaaPkFlowROf
import Derived.Test.YtocklhehfdilmaaPkFlowLaw0
namespace Go.Proofs.Ytocklhehfdilmaa
open Go.RowKit
attribute [local go_sem ↓] exec_eqlR
attribute [local go_sem] eqFv_mk orElseF_some eqFc_self
theorem law1K {rb ro rc nc k y wb wo wc n0 G : Nat} {na : Option Addr} {fa fe ff : Bool} {rs : List PR} {ns : List PN} {L : List Fc} {w W W' : World} (hn : n0 ≤ w.heap.size) (hb : Below W.heap.size W W') (h : W.cell? ⟨G, 0, none⟩ = some (.slice (some ⟨rb, ro, none⟩) rs.length rc) ∧ W.cell? ⟨G, 1, none⟩ = some (.slice na ns.length nc) ∧ W.cell? ⟨rb, ro + k * 2 + 1, none⟩ = some (.int .i64 (y : Int)) ∧ W.cell? ⟨wb, wo + y * 3, none⟩ = some (.bool fa) ∧ W.cell? ⟨wb, wo + y * 3 + 1, none⟩ = some (.bool fe) ∧ W.cell? ⟨wb, wo + y * 3 + 2, none⟩ = some (.bool ff) ∧ FactsAt W (.slice (some ⟨wb, wo, none⟩) ns.length wc) L ∧ Below n0 w W) : W'.cell? ⟨G, 0, none⟩ = some (.slice (some ⟨rb, ro, none⟩) rs.length rc) ∧ W'.cell? ⟨G, 1, none⟩ = some (.slice na ns.length nc) ∧ W'.cell? ⟨rb, ro + k * 2 + 1, none⟩ = some (.int .i64 (y : Int)) ∧ W'.cell? ⟨wb, wo + y * 3, none⟩ = some (.bool fa) ∧ W'.cell? ⟨wb, wo + y * 3 + 1, none⟩ = some (.bool fe) ∧ W'.cell? ⟨wb, wo + y * 3 + 2, none⟩ = some (.bool ff) ∧ FactsAt W' (.slice (some ⟨wb, wo, none⟩) ns.length wc) L ∧ Below n0 w W' := by
  obtain ⟨h0, h1, h2, h3, h4, h5, hF, hB⟩ := h
  have hk : ∀ {b o : Nat} {v : Value}, W.cell? ⟨b, o, none⟩ = some v → W'.cell? ⟨b, o, none⟩ = some v := fun h => by rw [(bcell hb).1 _ _ (lt_of_cell h)]; exact h
  exact ⟨hk h0, hk h1, hk h2, hk h3, hk h4, hk h5, hF.below hb, hB.trans (hb.mono (Nat.le_trans hn hB.size))⟩
set_option maxHeartbeats 8000000 in
set_option maxRecDepth 100000 in
theorem law11_matches (rv nv : Value) (rs : List PR) (ns : List PN) (r : Int) (w : World) (hR : RulesIn w rv rs) (hN : NodesAt w nv ns) (hr : (Lit.int .u8 r).wf = true) :
    Calls Try.prog 3 #[.agg #[rv, nv], .int .u8 r] w fun e w' => e = .returned (.bool true) ∧ Below w.heap.size w w' := by
  have HS := Lib.hid (fun (W : World) (hb : Below w.heap.size w W) => rsmall_any rv nv rs ns W (hR.kept hb (Nat.le_refl _)) (hN.kept hb (Nat.le_refl _)))
  obtain ⟨na, nc, rfl⟩ : ∃ na nc, nv = .slice na ns.length nc := by obtain ⟨-, na, nc, rfl, -⟩ := hN; exact ⟨na, nc, rfl⟩
  obtain ⟨k0, rfl, hk0⟩ : ∃ k : Nat, r = (k : Int) ∧ k ≤ 255 := by
    have e1 : IntKind.u8.min = 0 := rfl
    have e2 : IntKind.u8.max = 255 := rfl
    simp only [Lit.wf, e1, e2, Bool.and_eq_true, decide_eq_true_eq] at hr
    exact ⟨r.toNat, by omega, by omega⟩
  cases hsm : (fewB rs ns && okB (chkL rs ns)) with
  | false =>
    rw [hsm] at HS
    obtain ⟨-, ra, rc, rfl, -⟩ := hR
    clear hsm hN hr
    go_enter Try.func3, Try.ntmps3
    go_upto_region 2 with (first
      | (go_at_call 8; (with_reducible refine (awake11_any _).mono ?_); rintro e w2 ⟨rfl, hb⟩; have HW := Lib.hid (bl_on (one_new w _) hb); have b0 := (bcell hb).1 w.heap.size 0 (by simp); have b1 := (bcell hb).1 w.heap.size 1 (by simp); simp at b0 b1; clear hb)
      | (go_at_call 9; (with_reducible refine (HS.out _ HW.out).mono ?_); rintro e w3 ⟨rfl, hb⟩; replace HW := Lib.hid (bl_on HW.out hb); clear hb b0 b1))
    go_wp2_with (go_at_call 8; (with_reducible refine (awake11_any _).mono ?_); rintro e w4 ⟨rfl, hb⟩; replace HW := Lib.hid (bl_on HW.out hb); clear hb)
    go_ret
    exact ⟨rfl, HW.out⟩
  | true =>
    obtain ⟨hO, hr0, hrl⟩ := small11 hsm
    rw [hsm] at HS
    have hs := hO.nl
    have hkl : k0 % rs.length < rs.length := Nat.mod_lt _ hr0
    obtain ⟨x, hx⟩ : ∃ x, rs[k0 % rs.length]? = some x := ⟨_, List.getElem?_eq_getElem hkl⟩
    obtain ⟨x0, x1⟩ := root11 hsm hx
    obtain ⟨y, hy⟩ : ∃ y : Nat, x.root = y := ⟨x.root.toNat, by omega⟩
    have hroot : rootF rs ((k0 % rs.length : Nat) : Int) = (y : Int) := by rw [rootF_at hx, hy]
    have hll := lfp_length rs ns
    obtain ⟨f, hf⟩ : ∃ f, (lfp rs ns)[y]? = some f := ⟨_, List.getElem?_eq_getElem (by omega)⟩
    have hrem : (k0 : Int).tmod (rs.length : Int) = ((k0 % rs.length : Nat) : Int) := by rw [Int.tmod_eq_emod_of_nonneg (by omega)]; first | rfl | exact (Int.natCast_emod _ _).symm | exact (Int.ofNat_emod _ _).symm
    have hmod : (k0 : Int) % (rs.length : Int) = ((k0 % rs.length : Nat) : Int) := by first | rfl | exact (Int.natCast_emod _ _).symm | exact (Int.ofNat_emod _ _).symm
    have HF := Lib.hid (fun (W : World) (hb : Below w.heap.size w W) => fof_any rv _ rs ns W (hR.kept hb (Nat.le_refl _)) (hN.kept hb (Nat.le_refl _)) hO)
    have HRF := Lib.hid (fun (W : World) (hb : Below w.heap.size w W) => r11of_any rv _ rs ns W (hR.kept hb (Nat.le_refl _)) (hN.kept hb (Nat.le_refl _)) hO)
    have HB := Lib.hid (fun (v : Value) (W : World) (hF : FactsAt W v (lfp rs ns)) => back11_any v _ W hF (by omega))
    have HSA := Lib.hid (fun (u v : Value) (W : World) (hu : FactsAt W u (lfp rs ns)) (hv : FactsAt W v (lfp rs ns)) => rsame11_yes u v _ W hu hv (by omega))
    have HRu := Lib.hid (fun (W : World) (hb : Below w.heap.size w W) => frule_any rv _ rs ns ((k0 % rs.length : Nat) : Int) W (hR.kept hb (Nat.le_refl _)) (hN.kept hb (Nat.le_refl _)) hO)
    rw [hroot, atF_some hf] at HRu
    unfold NewF at HF HRF HB
    rw [hll] at HF HRF HB
    unfold factV at HRu
    obtain ⟨-, ra, rc, rfl, hra⟩ := hR
    rcases hra with h0 | ⟨rb, ro, rfl, hrc⟩
    · rw [h0] at hr0; exact absurd hr0 (Nat.lt_irrefl _)
    obtain ⟨-, hrr⟩ := hrc _ x hx
    rw [hy] at hrr
    have lrr := lt_of_cell hrr
    have hHF := Lib.hid hf
    have hy1 : (y : Int) < (ns.length : Int) := by omega
    obtain ⟨fa, fe, ff⟩ := f
    clear hsm hN hO hr hx x0 x1 hy hroot hf hrc
    generalize hkk : k0 % rs.length = k at *
    generalize hL : lfp rs ns = L at *
    have hk1 : (k : Int) < (rs.length : Int) := by omega
    clear hL
    have hne : ¬ (rs.length : Int) = 0 := by omega
    go_enter Try.func3, Try.ntmps3
    go_upto_region 4 with (first
      | (go_at_call 8; (with_reducible refine (awake11_any _).mono ?_); rintro e w2 ⟨rfl, hb⟩; have HW := Lib.hid (bl_on (one_new w _) hb); have HG := Lib.hid ((Bl.new w 25 #[.slice (some ⟨rb, ro, none⟩) rs.length rc, .slice na ns.length nc]).below hb); have b0 : w2.cell? ⟨w.heap.size, 0, none⟩ = some (.slice (some ⟨rb, ro, none⟩) rs.length rc) := HG.out.cell (o := 0) rfl; have b1 : w2.cell? ⟨w.heap.size, 1, none⟩ = some (.slice na ns.length nc) := HG.out.cell (o := 1) rfl; clear hb)
      | (go_at_call 9; (with_reducible refine (HS.out _ HW.out).mono ?_); rintro e w3 ⟨rfl, hb⟩; replace HW := Lib.hid (bl_on HW.out hb); replace HG := Lib.hid (HG.out.below hb); have d0 : w3.cell? ⟨w.heap.size, 0, none⟩ = some (.slice (some ⟨rb, ro, none⟩) rs.length rc) := HG.out.cell (o := 0) rfl; have d1 : w3.cell? ⟨w.heap.size, 1, none⟩ = some (.slice na ns.length nc) := HG.out.cell (o := 1) rfl; clear hb b0 b1))
    clear HS
    go_upto_region 5 with (go_at_call 10; (with_reducible refine (HRF.out _ HW.out).mono ?_); rintro e w4 ⟨a4, c4, rfl, hf, hb⟩; have HW4 := Lib.hid (bl_on HW.out hb); have HF4 := Lib.hid hf; have HG4 := Lib.hid (HG.out.below hb); clear hb hf d0 d1)
    obtain ⟨wb, wo, rfl, a0, a1, a2⟩ := HF4.out.at hHF.out
    have g0 : w4.cell? ⟨w.heap.size, 0, none⟩ = some (.slice (some ⟨rb, ro, none⟩) rs.length rc) := HG4.out.cell (o := 0) rfl
    have g1 : w4.cell? ⟨w.heap.size, 1, none⟩ = some (.slice na ns.length nc) := HG4.out.cell (o := 1) rfl
    have gr : w4.cell? ⟨rb, ro + k * 2 + 1, none⟩ = some (.int .i64 (y : Int)) := by rw [(bcell HW4.out).1 _ _ lrr]; exact hrr
    obtain ⟨n0, hn0⟩ : ∃ n0, w.heap.size = n0 := ⟨_, rfl⟩
    have hnw : n0 ≤ w.heap.size := Nat.le_of_eq hn0.symm
    have HN0 := Lib.hid hn0
    obtain ⟨G, hG⟩ : ∃ G, G = w.heap.size := ⟨_, rfl⟩
    rw [← hG] at g0 g1
    have hS : (fun V : World => V.cell? ⟨G, 0, none⟩ = some (.slice (some ⟨rb, ro, none⟩) rs.length rc) ∧ V.cell? ⟨G, 1, none⟩ = some (.slice na ns.length nc) ∧ V.cell? ⟨rb, ro + k * 2 + 1, none⟩ = some (.int .i64 (y : Int)) ∧ V.cell? ⟨wb, wo + y * 3, none⟩ = some (.bool fa) ∧ V.cell? ⟨wb, wo + y * 3 + 1, none⟩ = some (.bool fe) ∧ V.cell? ⟨wb, wo + y * 3 + 2, none⟩ = some (.bool ff) ∧ FactsAt V (.slice (some ⟨wb, wo, none⟩) ns.length c4) L ∧ Below n0 w V) w4.drew := ⟨g0, g1, gr, a0, a1, a2, HF4.out.kept (Below.drew (Below.refl w4.heap.size w4)) (Nat.le_refl _), by rw [← hn0]; exact HW4.out.drew⟩
    clear hn0 HF4 HG4 HW4 HW HG g0 g1 gr a0 a1 a2 hrr HRF
    dsimp only at hS
    rw [← hG]
    clear hG
    go_region_held3 (fun V : World => V.cell? ⟨G, 0, none⟩ = some (.slice (some ⟨rb, ro, none⟩) rs.length rc) ∧ V.cell? ⟨G, 1, none⟩ = some (.slice na ns.length nc) ∧ V.cell? ⟨rb, ro + k * 2 + 1, none⟩ = some (.int .i64 (y : Int)) ∧ V.cell? ⟨wb, wo + y * 3, none⟩ = some (.bool fa) ∧ V.cell? ⟨wb, wo + y * 3 + 1, none⟩ = some (.bool fe) ∧ V.cell? ⟨wb, wo + y * 3 + 2, none⟩ = some (.bool ff) ∧ FactsAt V (.slice (some ⟨wb, wo, none⟩) ns.length c4) L ∧ Below n0 w V) (first | exact hS)
      (first
        | (go_at_call 13; with_reducible refine (HF.out _ (by rw [HN0.out]; exact hS.2.2.2.2.2.2.2)).mono ?_; rintro ev w5 ⟨a5, c5, rfl, hf, hb⟩; have HF5 := Lib.hid hf; replace hS := law1K hnw hb hS; clear hb hf)
        | (go_at_call 12; with_reducible refine (HB.out _ _ HF5.out).mono ?_; rintro ev w6 ⟨a6, c6, rfl, hf, hb⟩; have HF6 := Lib.hid hf; replace hS := law1K hnw hb hS; clear hb hf)
        | (go_at_call 11; with_reducible refine (HSA.out _ _ _ HF6.out hS.2.2.2.2.2.2.1).mono ?_; rintro ev w7 ⟨rfl, hb⟩; replace hS := law1K hnw hb hS; clear hb)
        | (go_at_call 14; with_reducible refine (HRu.out _ (by rw [HN0.out]; exact hS.2.2.2.2.2.2.2)).mono ?_; rintro ev w8 ⟨rfl, hb⟩; replace hS := law1K hnw hb hS; clear hb))
    have HBF := Lib.hid hS.2.2.2.2.2.2.2
    clear hS
    go_wp2
    go_ret
    exact ⟨rfl, by rw [HN0.out]; exact HBF.out⟩
end Go.Proofs.Ytocklhehfdilmaa
