/- The law FlowSteps. -/
import Derived.Deep.RegionWith
import Derived.Deep.Cut
import Derived.Test.YtocklhehfdilmaaPkFlowAw
import Derived.Test.YtocklhehfdilmaaPkFlowROf
import Derived.Test.YtocklhehfdilmaaPkFlowLaw0
namespace Go.Proofs.Ytocklhehfdilmaa
open Go.RowKit
set_option maxHeartbeats 8000000 in
set_option maxRecDepth 100000 in
theorem law11_steps (rv nv lv : Value) (rs : List PR) (ns : List PN) (l : List Fc) (w : World) (hR : RulesIn w rv rs) (hN : NodesAt w nv ns) (hL : FactsAt w lv l) :
    Calls Try.prog 4 #[.agg #[rv, nv], lv] w fun e w' => e = .returned (.bool true) ∧ Below w.heap.size w w' := by
  have HS := Lib.hid (fun (W : World) (hb : Below w.heap.size w W) => rsmall_any rv nv rs ns W (hR.kept hb (Nat.le_refl _)) (hN.kept hb (Nat.le_refl _)))
  obtain ⟨la, lc, rfl⟩ := hL.slice
  obtain ⟨na, nc, rfl⟩ : ∃ na nc, nv = .slice na ns.length nc := by obtain ⟨-, na, nc, rfl, -⟩ := hN; exact ⟨na, nc, rfl⟩
  cases hsm : (fewB rs ns && okB (chkL rs ns)) with
  | false =>
    rw [hsm] at HS
    obtain ⟨-, ra, rc, rfl, -⟩ := hR
    clear hsm hN hL
    go_enter Try.func4, Try.ntmps4
    go_upto_region 2 with (first
      | (go_at_call 8; (with_reducible refine (awake11_any _).mono ?_); rintro e w2 ⟨rfl, hb⟩; have HW := Lib.hid (bl_on (one_new w _) hb); have b0 := (bcell hb).1 w.heap.size 0 (by simp); have b1 := (bcell hb).1 w.heap.size 1 (by simp); simp at b0 b1; clear hb)
      | (go_at_call 9; (with_reducible refine (HS.out _ HW.out).mono ?_); rintro e w3 ⟨rfl, hb⟩; replace HW := Lib.hid (bl_on HW.out hb); clear hb b0 b1))
    go_wp2_with (go_at_call 8; (with_reducible refine (awake11_any _).mono ?_); rintro e w4 ⟨rfl, hb⟩; replace HW := Lib.hid (bl_on HW.out hb); clear hb)
    go_ret
    exact ⟨rfl, HW.out⟩
  | true =>
    obtain ⟨hO, -, -⟩ := small11 hsm
    rw [hsm] at HS
    by_cases hlen : l.length = ns.length
    · have q1 : ((l.length : Int) != (ns.length : Int)) = false := by rw [hlen]; simp
      have hs := hO.nl
      have HL := Lib.hid (fun (W : World) (hb : Below w.heap.size w W) => facts11_any _ l W (hL.kept hb (Nat.le_refl _)) (by omega))
      have HP := Lib.hid (fun (v : Value) (W : World) (hb : Below w.heap.size w W) (hF : FactsAt W v l) => fstep_any rv _ v rs ns l W (hR.kept hb (Nat.le_refl _)) (hN.kept hb (Nat.le_refl _)) hF (fun n hn => (hO.ok n hn).ok) (by omega))
      have HB := Lib.hid (fun (v : Value) (W : World) (hF : FactsAt W v (stepF rs ns l)) => back11_any v _ W hF (by rw [stepF_length]; omega))
      have HR := Lib.hid (fun (W : World) (hb : Below w.heap.size w W) => rstep_any rv _ _ rs ns l W (hR.kept hb (Nat.le_refl _)) (hN.kept hb (Nat.le_refl _)) (hL.kept hb (Nat.le_refl _)) hlen hO)
      have HSA := Lib.hid (fun (u v : Value) (W : World) (hu : FactsAt W u (stepF rs ns l)) (hv : FactsAt W v (stepF rs ns l)) => rsame11_yes u v _ W hu hv (by rw [stepF_length]; omega))
      unfold NewF at HL HP HB HR
      obtain ⟨-, ra, rc, rfl, -⟩ := hR
      rw [hlen] at HL HR ⊢
      clear hsm hN hL hO hlen q1
      go_enter Try.func4, Try.ntmps4
      go_upto_region 3 with (first
        | (go_at_call 8; (with_reducible refine (awake11_any _).mono ?_); rintro e w2 ⟨rfl, hb⟩; have HW := Lib.hid (bl_on (one_new w _) hb); have HG := Lib.hid ((Bl.new w 25 #[.slice ra rs.length rc, .slice na ns.length nc]).below hb); have b0 : w2.cell? ⟨w.heap.size, 0, none⟩ = some (.slice ra rs.length rc) := HG.out.cell (o := 0) rfl; have b1 : w2.cell? ⟨w.heap.size, 1, none⟩ = some (.slice na ns.length nc) := HG.out.cell (o := 1) rfl; clear hb)
        | (go_at_call 9; (with_reducible refine (HS.out _ HW.out).mono ?_); rintro e w3 ⟨rfl, hb⟩; replace HW := Lib.hid (bl_on HW.out hb); replace HG := Lib.hid (HG.out.below hb); have d0 : w3.cell? ⟨w.heap.size, 0, none⟩ = some (.slice ra rs.length rc) := HG.out.cell (o := 0) rfl; have d1 : w3.cell? ⟨w.heap.size, 1, none⟩ = some (.slice na ns.length nc) := HG.out.cell (o := 1) rfl; clear hb b0 b1))
      go_region_with (first
        | (go_at_call 16; (with_reducible refine (HL.out _ (Below.drew HW.out)).mono ?_); rintro e w4 ⟨a4, c4, rfl, hf, hb⟩; have HW4 := Lib.hid (bl_on (Below.drew HW.out) hb); have HF4 := Lib.hid hf; have HG4 := Lib.hid (HG.out.drew.below hb); have e0 : w4.cell? ⟨w.heap.size, 0, none⟩ = some (.slice ra rs.length rc) := HG4.out.cell (o := 0) rfl; have e1 : w4.cell? ⟨w.heap.size, 1, none⟩ = some (.slice na ns.length nc) := HG4.out.cell (o := 1) rfl; clear hb hf)
        | (go_at_call 15; (with_reducible refine (HP.out _ _ HW4.out HF4.out).mono ?_); rintro e w5 ⟨a5, c5, rfl, hf, hb⟩; have HW5 := Lib.hid (bl_on HW4.out hb); have HF5 := Lib.hid hf; have HG5 := Lib.hid (HG4.out.below hb); have f0 : w5.cell? ⟨w.heap.size, 0, none⟩ = some (.slice ra rs.length rc) := HG5.out.cell (o := 0) rfl; have f1 : w5.cell? ⟨w.heap.size, 1, none⟩ = some (.slice na ns.length nc) := HG5.out.cell (o := 1) rfl; clear hb hf)
        | (go_at_call 12; (with_reducible refine (HB.out _ _ HF5.out).mono ?_); rintro e w6 ⟨a6, c6, rfl, hf, hb⟩; have HW6 := Lib.hid (bl_on HW5.out hb); have HF6 := Lib.hid hf; have HG6 := Lib.hid (HG5.out.below hb); have g0 : w6.cell? ⟨w.heap.size, 0, none⟩ = some (.slice ra rs.length rc) := HG6.out.cell (o := 0) rfl; have g1 : w6.cell? ⟨w.heap.size, 1, none⟩ = some (.slice na ns.length nc) := HG6.out.cell (o := 1) rfl; clear hb hf)
        | (go_at_call 17; (with_reducible refine (HR.out _ HW6.out).mono ?_); rintro e w7 ⟨a7, c7, rfl, hf, hb⟩; have HW7 := Lib.hid (bl_on HW6.out hb); have HF7 := Lib.hid hf; have HF67 := Lib.hid (HF6.out.below hb); clear hb hf)
        | (go_at_call 11; (with_reducible refine (HSA.out _ _ _ HF67.out HF7.out).mono ?_); rintro e w8 ⟨rfl, hb⟩; have HW8 := Lib.hid (bl_on HW7.out hb); clear hb))
      all_goals
        go_wp2
        go_ret
        exact ⟨rfl, HW8.out⟩
    · have q1 : ((l.length : Int) != (ns.length : Int)) = true := ibne_yes (by omega)
      obtain ⟨-, ra, rc, rfl, -⟩ := hR
      clear hsm hN hL hO
      go_enter Try.func4, Try.ntmps4
      go_upto_region 2 with (first
        | (go_at_call 8; (with_reducible refine (awake11_any _).mono ?_); rintro e w2 ⟨rfl, hb⟩; have HW := Lib.hid (bl_on (one_new w _) hb); have HG := Lib.hid ((Bl.new w 25 #[.slice ra rs.length rc, .slice na ns.length nc]).below hb); have b0 : w2.cell? ⟨w.heap.size, 0, none⟩ = some (.slice ra rs.length rc) := HG.out.cell (o := 0) rfl; have b1 : w2.cell? ⟨w.heap.size, 1, none⟩ = some (.slice na ns.length nc) := HG.out.cell (o := 1) rfl; clear hb)
        | (go_at_call 9; (with_reducible refine (HS.out _ HW.out).mono ?_); rintro e w3 ⟨rfl, hb⟩; replace HW := Lib.hid (bl_on HW.out hb); replace HG := Lib.hid (HG.out.below hb); have d0 : w3.cell? ⟨w.heap.size, 0, none⟩ = some (.slice ra rs.length rc) := HG.out.cell (o := 0) rfl; have d1 : w3.cell? ⟨w.heap.size, 1, none⟩ = some (.slice na ns.length nc) := HG.out.cell (o := 1) rfl; clear hb b0 b1))
      go_wp2_with (go_at_call 8; (with_reducible refine (awake11_any _).mono ?_); rintro e w4 ⟨rfl, hb⟩; replace HW := Lib.hid (bl_on HW.out hb); clear hb)
      go_ret
      exact ⟨rfl, HW.out⟩
end Go.Proofs.Ytocklhehfdilmaa
