/- The law FlowSettles. -/
import Derived.Deep.RegionWith
import Derived.Deep.Cut
import Derived.Test.YtocklhehfdilmaaPkFlowAw
import Derived.Test.YtocklhehfdilmaaPkFlowROf
import Derived.Test.YtocklhehfdilmaaPkFlowLaw0
namespace Go.Proofs.Ytocklhehfdilmaa
open Go.RowKit
/-- A round: as many steps as have been made, and the least fixed point kept beside. -/
def SetR (rs : List PR) (ns : List PN) (rv nv lv : Value) (w : World) (u c : Value) (W : World) : Prop :=
  ∃ (k : Nat) (a : Option Addr) (q : Nat), k ≤ 3 * ns.length ∧ c = .int .i64 (k : Int) ∧ u = .slice a ns.length q ∧ FactsAt W (.slice a ns.length q) (itrF rs ns k) ∧ FactsAt W lv (lfp rs ns) ∧ Bl W w.heap.size 25 #[rv, nv] ∧ Below w.heap.size w W
set_option maxHeartbeats 16000000 in
set_option maxRecDepth 100000 in
theorem law11_settles (rv nv : Value) (rs : List PR) (ns : List PN) (w : World) (hR : RulesIn w rv rs) (hN : NodesAt w nv ns) :
    Calls Try.prog 5 #[.agg #[rv, nv]] w fun e w' => e = .returned (.bool true) ∧ Below w.heap.size w w' := by
  have HS := Lib.hid (fun (W : World) (hb : Below w.heap.size w W) => rsmall_any rv nv rs ns W (hR.kept hb (Nat.le_refl _)) (hN.kept hb (Nat.le_refl _)))
  obtain ⟨na, nc, rfl⟩ : ∃ na nc, nv = .slice na ns.length nc := by obtain ⟨-, na, nc, rfl, -⟩ := hN; exact ⟨na, nc, rfl⟩
  cases hsm : (fewB rs ns && okB (chkL rs ns)) with
  | false =>
    rw [hsm] at HS
    obtain ⟨-, ra, rc, rfl, -⟩ := hR
    clear hsm hN
    go_enter Try.func5, Try.ntmps5
    go_upto_region 2 with (first
      | (go_at_call 8; (with_reducible refine (awake11_any _).mono ?_); rintro e w2 ⟨rfl, hb⟩; have HW := Lib.hid (bl_on (one_new w _) hb); have b0 := (bcell hb).1 w.heap.size 0 (by simp); have b1 := (bcell hb).1 w.heap.size 1 (by simp); simp at b0 b1; clear hb)
      | (go_at_call 9; (with_reducible refine (HS.out _ HW.out).mono ?_); rintro e w3 ⟨rfl, hb⟩; replace HW := Lib.hid (bl_on HW.out hb); clear hb b0 b1))
    go_wp2_with (go_at_call 8; (with_reducible refine (awake11_any _).mono ?_); rintro e w4 ⟨rfl, hb⟩; replace HW := Lib.hid (bl_on HW.out hb); clear hb)
    go_ret
    exact ⟨rfl, HW.out⟩
  | true =>
    obtain ⟨hO, -, -⟩ := small11 hsm
    rw [hsm] at HS
    have hs := hO.nl
    have hmk := fun w => run_make_facts .i64 .i64 ns.length (by omega) w
    have hmul : IntKind.i64.wrap (3 * (ns.length : Int)) = 3 * (ns.length : Int) := IntWalk.i64_in _ (by omega)
    have HMUL := Lib.hid hmul
    have HOf := Lib.hid (fun (W : World) (hb : Below w.heap.size w W) => fof_any rv _ rs ns W (hR.kept hb (Nat.le_refl _)) (hN.kept hb (Nat.le_refl _)) hO)
    have HP := Lib.hid (fun (v : Value) (k : Nat) (W : World) (hb : Below w.heap.size w W) (hF : FactsAt W v (itrF rs ns k)) => (show Calls Try.prog 15 #[.agg #[rv, _], v] W (NewF (itrF rs ns (k + 1)) W) from fstep_any rv _ v rs ns (itrF rs ns k) W (hR.kept hb (Nat.le_refl _)) (hN.kept hb (Nat.le_refl _)) hF (fun n hn => (hO.ok n hn).ok) (by omega)))
    have HPL := Lib.hid (fun (v : Value) (W : World) (hb : Below w.heap.size w W) (hF : FactsAt W v (lfp rs ns)) => fstep_any rv _ v rs ns (lfp rs ns) W (hR.kept hb (Nat.le_refl _)) (hN.kept hb (Nat.le_refl _)) hF (fun n hn => (hO.ok n hn).ok) (by omega))
    rw [lfp_fix] at HPL
    have HBL := Lib.hid (fun (v : Value) (W : World) (hF : FactsAt W v (lfp rs ns)) => back11_any v _ W hF (by rw [lfp_length]; omega))
    have HBK := Lib.hid (fun (v : Value) (k : Nat) (W : World) (hF : FactsAt W v (itrF rs ns k)) => back11_any v _ W hF (by rw [itrF_length]; omega))
    have HSA := Lib.hid (fun (u v : Value) (W : World) (hu : FactsAt W u (lfp rs ns)) (hv : FactsAt W v (lfp rs ns)) => rsame11_yes u v _ W hu hv (by rw [lfp_length]; omega))
    have HWI := Lib.hid (fun (u v : Value) (k : Nat) (W : World) (hu : FactsAt W u (itrF rs ns k)) (hv : FactsAt W v (lfp rs ns)) => rwithin_any u v _ _ true W hu hv (by rw [itrF_length, lfp_length]) (by rw [itrF_length]; omega) ⟨fun _ => itrF_lfp rs ns k, fun _ => rfl⟩)
    unfold NewF at HOf HP HPL HBL HBK
    rw [lfp_length] at HOf HPL HBL
    simp only [itrF_length] at HP HBK
    obtain ⟨-, ra, rc, rfl, -⟩ := hR
    clear hsm hN hO
    go_enter Try.func5, Try.ntmps5
    go_upto_region 3 with (first
      | (go_at_call 8; (with_reducible refine (awake11_any _).mono ?_); rintro e w2 ⟨rfl, hb⟩; have HW := Lib.hid (bl_on (one_new w _) hb); have HG := Lib.hid ((Bl.new w 25 #[.slice ra rs.length rc, .slice na ns.length nc]).below hb); have b0 : w2.cell? ⟨w.heap.size, 0, none⟩ = some (.slice ra rs.length rc) := HG.out.cell (o := 0) rfl; have b1 : w2.cell? ⟨w.heap.size, 1, none⟩ = some (.slice na ns.length nc) := HG.out.cell (o := 1) rfl; clear hb)
      | (go_at_call 9; (with_reducible refine (HS.out _ HW.out).mono ?_); rintro e w3 ⟨rfl, hb⟩; replace HW := Lib.hid (bl_on HW.out hb); replace HG := Lib.hid (HG.out.below hb); have d0 : w3.cell? ⟨w.heap.size, 0, none⟩ = some (.slice ra rs.length rc) := HG.out.cell (o := 0) rfl; have d1 : w3.cell? ⟨w.heap.size, 1, none⟩ = some (.slice na ns.length nc) := HG.out.cell (o := 1) rfl; clear hb b0 b1))
    go_wp2_with (first
      | (go_at_call 13; (with_reducible refine (HOf.out _ HW.out).mono ?_); rintro e w4 ⟨a4, c4, rfl, hf, hb⟩; have HF4 := Lib.hid hf; have HW4 := Lib.hid (bl_on HW.out hb); have HG4 := Lib.hid (HG.out.below hb); have e0 : w4.cell? ⟨w.heap.size, 0, none⟩ = some (.slice ra rs.length rc) := HG4.out.cell (o := 0) rfl; have e1 : w4.cell? ⟨w.heap.size, 1, none⟩ = some (.slice na ns.length nc) := HG4.out.cell (o := 1) rfl; clear hb hf d0 d1)
      | (go_at_call 15; (with_reducible refine (HPL.out _ _ HW4.out HF4.out).mono ?_); rintro e w5 ⟨a5, c5, rfl, hf, hb⟩; have HF5 := Lib.hid hf; have HL5 := Lib.hid (HF4.out.below hb); have HW5 := Lib.hid (bl_on HW4.out hb); have HG5 := Lib.hid (HG4.out.below hb); have f0 : w5.cell? ⟨w.heap.size, 0, none⟩ = some (.slice ra rs.length rc) := HG5.out.cell (o := 0) rfl; have f1 : w5.cell? ⟨w.heap.size, 1, none⟩ = some (.slice na ns.length nc) := HG5.out.cell (o := 1) rfl; clear hb hf e0 e1)
      | (go_at_call 12; (with_reducible refine (HBL.out _ _ HF5.out).mono ?_); rintro e w6 ⟨a6, c6, rfl, hf, hb⟩; have HF6 := Lib.hid hf; have HL6 := Lib.hid (HL5.out.below hb); have HW6 := Lib.hid (bl_on HW5.out hb); have HG6 := Lib.hid (HG5.out.below hb); have g0 : w6.cell? ⟨w.heap.size, 0, none⟩ = some (.slice ra rs.length rc) := HG6.out.cell (o := 0) rfl; have g1 : w6.cell? ⟨w.heap.size, 1, none⟩ = some (.slice na ns.length nc) := HG6.out.cell (o := 1) rfl; clear hb hf f0 f1 HF5)
      | (go_at_call 12; (with_reducible refine (HBL.out _ _ HL6.out).mono ?_); rintro e w7 ⟨a7, c7, rfl, hf, hb⟩; have HF7 := Lib.hid hf; have HL7 := Lib.hid (HL6.out.below hb); have HM7 := Lib.hid (HF6.out.below hb); have HW7 := Lib.hid (bl_on HW6.out hb); have HG7 := Lib.hid (HG6.out.below hb); have h0 : w7.cell? ⟨w.heap.size, 0, none⟩ = some (.slice ra rs.length rc) := HG7.out.cell (o := 0) rfl; have h1 : w7.cell? ⟨w.heap.size, 1, none⟩ = some (.slice na ns.length nc) := HG7.out.cell (o := 1) rfl; clear hb hf g0 g1 HF6 HL6)
      | (go_at_call 11; (with_reducible refine (HSA.out _ _ _ HM7.out HF7.out).mono ?_); rintro e w8 ⟨rfl, hb⟩; have HL8 := Lib.hid (HL7.out.below hb); have HW8 := Lib.hid (bl_on HW7.out hb); have HG8 := Lib.hid (HG7.out.below hb); have k0 : w8.cell? ⟨w.heap.size, 0, none⟩ = some (.slice ra rs.length rc) := HG8.out.cell (o := 0) rfl; have k1 : w8.cell? ⟨w.heap.size, 1, none⟩ = some (.slice na ns.length nc) := HG8.out.cell (o := 1) rfl; clear hb h0 h1 HF7 HL7 HM7))
    go_loopw [4, 5] (fun u c wr => SetR rs ns (.slice ra rs.length rc) (.slice na ns.length nc) (.slice a4 ns.length c4) w u c wr) (fun _ c _ => 3 * ns.length - (intOf c).toNat)
    case atStart =>
      have h1 := FBk.made w8 ns.length 36
      have h2 := h1.facts (c := ns.length) (by rw [List.length_replicate]; unfold maxLen; omega)
      rw [List.length_replicate] at h2
      exact ⟨0, _, _, Nat.zero_le _, rfl, rfl, h2, HL8.out.kept (Below.alloc (Below.refl _ _) (Nat.le_refl _) _) (Nat.le_refl _), Bl.past HG8.out, Below.alloc HW8.out HW8.out.size _⟩
    case round =>
      clear k0 k1 HG8 HW8 HL8 HG HW
      obtain ⟨k, a, q, hk, rfl, rfl, hf, hl, hg, hb⟩ := hrel
      have g0 := hg.cell (o := 0) (u := .slice ra rs.length rc) rfl
      have g1 := hg.cell (o := 1) (u := .slice na ns.length nc) rfl
      have HF := Lib.hid hf
      have HL := Lib.hid hl
      have HG := Lib.hid hg
      have HB := Lib.hid hb
      clear hf hl hg hb
      by_cases hlt : k < 3 * ns.length
      · have k1 : (k : Int) < 3 * (ns.length : Int) := by omega
        go_wp2_with (first
          | (go_at_call 15; (with_reducible refine (HP.out _ k _ HB.out HF.out).mono ?_); rintro e v5 ⟨a5, c5, rfl, hf, hb⟩; have HF5 := Lib.hid hf; have HL5 := Lib.hid (HL.out.below hb); have HB5 := Lib.hid (bl_on HB.out hb); have HG5 := Lib.hid (HG.out.below hb); have f0 : v5.cell? ⟨w.heap.size, 0, none⟩ = some (.slice ra rs.length rc) := HG5.out.cell (o := 0) rfl; have f1 : v5.cell? ⟨w.heap.size, 1, none⟩ = some (.slice na ns.length nc) := HG5.out.cell (o := 1) rfl; clear hb hf g0 g1)
          | (go_at_call 12; (with_reducible refine (HBK.out _ (k + 1) _ HF5.out).mono ?_); rintro e v6 ⟨a6, c6, rfl, hf, hb⟩; have HQ6 := Lib.hid hf; have HF6 := Lib.hid (HF5.out.below hb); have HL6 := Lib.hid (HL5.out.below hb); have HB6 := Lib.hid (bl_on HB5.out hb); have HG6 := Lib.hid (HG5.out.below hb); clear hb hf f0 f1)
          | (go_at_call 12; (with_reducible refine (HBL.out _ _ HL6.out).mono ?_); rintro e v7 ⟨a7, c7, rfl, hf, hb⟩; have HP7 := Lib.hid hf; have HQ7 := Lib.hid (HQ6.out.below hb); have HF7 := Lib.hid (HF6.out.below hb); have HL7 := Lib.hid (HL6.out.below hb); have HB7 := Lib.hid (bl_on HB6.out hb); have HG7 := Lib.hid (HG6.out.below hb); clear hb hf)
          | (go_at_call 18; (with_reducible refine (HWI.out _ _ (k + 1) _ HQ7.out HP7.out).mono ?_); rintro e v8 ⟨rfl, hw⟩; obtain rfl := hw.symm; clear hw))
        go_roundw
        case rel => exact ⟨k + 1, _, _, by omega, by go_num, rfl, HF7.out, HL7.out, HG7.out, HB7.out⟩
        case measure => simp [intOf]; omega
      · obtain rfl : k = 3 * ns.length := by omega
        have k1 : ¬ (((3 * ns.length : Nat) : Int) < 3 * (ns.length : Int)) := by omega
        have hfl : FactsAt wr (.slice a ns.length q) (lfp rs ns) := HF.out
        have HFL := Lib.hid hfl
        clear hfl
        go_wp2_with (first
          | (go_at_call 12; (with_reducible refine (HBL.out _ _ HFL.out).mono ?_); rintro e v6 ⟨a6, c6, rfl, hf, hb⟩; have HQ6 := Lib.hid hf; have HL6 := Lib.hid (HL.out.below hb); have HB6 := Lib.hid (bl_on HB.out hb); clear hb hf HFL)
          | (go_at_call 12; (with_reducible refine (HBL.out _ _ HL6.out).mono ?_); rintro e v7 ⟨a7, c7, rfl, hf, hb⟩; have HP7 := Lib.hid hf; have HQ7 := Lib.hid (HQ6.out.below hb); have HB7 := Lib.hid (bl_on HB6.out hb); clear hb hf)
          | (go_at_call 11; (with_reducible refine (HSA.out _ _ _ HQ7.out HP7.out).mono ?_); rintro e v8 ⟨rfl, hb⟩; have HB8 := Lib.hid (bl_on HB7.out hb); clear hb))
        go_ret
        exact ⟨rfl, HB8.out⟩
end Go.Proofs.Ytocklhehfdilmaa
