/- flow.Rule, flow.Text. -/
import Derived.Deep.RegionWith
import Derived.Test.YtocklhehfdilmaaPkFlowOf
namespace Go.Proofs.Ytocklhehfdilmaa
open Go.RowKit
/-- The letters of facts. -/
def textF (f : Fc) : ByteArray := if f = fc0 then ⟨#[45]⟩ else ⟨((if f.nul then ([110] : List UInt8) else []) ++ (if f.eat then [101] else []) ++ (if f.fai then [102] else [])).toArray⟩
set_option maxHeartbeats 4000000 in
theorem ftext_any (f : Fc) (w : World) : Calls Try.prog 19 #[factV f] w fun e w' => e = .returned (.string (textF f)) ∧ Below w.heap.size w w' := by
  have HE := eqlF f fc0
  obtain ⟨a, b, c⟩ := f
  unfold factV
  cases a <;> cases b <;> cases c <;>
  · go_enter Try.func19, Try.ntmps19
    go_wp2_with (with_reducible refine gwpList_agg BinOp.eql 36 _ _ _ rfl rfl _ _ rfl rfl gtF _ (HE _) ?_)
    go_ret
    exact ⟨rfl, one_new _ _⟩
set_option maxHeartbeats 4000000 in
theorem frule_any (rv nv : Value) (rs : List PR) (ns : List PN) (r : Int) (w : World) (hR : RulesIn w rv rs) (hN : NodesAt w nv ns) (hO : FlowOk rs ns) :
    Calls Try.prog 14 #[.agg #[rv, nv], .int .i64 r] w fun e w' => e = .returned (factV (atF (lfp rs ns) (rootF rs r))) ∧ Below w.heap.size w w' := by
  obtain ⟨-, na, nc, rfl, -⟩ := id hN
  have HR := Lib.hid (fun (W : World) (hb : Below w.heap.size w W) => froot_any rv (.slice na ns.length nc) rs r W (hR.kept hb (Nat.le_refl _)))
  have HF := Lib.hid (fun (W : World) (hb : Below w.heap.size w W) => fof_any rv (.slice na ns.length nc) rs ns W (hR.kept hb (Nat.le_refl _)) (hN.kept hb (Nat.le_refl _)) hO)
  unfold NewF at HF
  obtain ⟨-, ra, rc, rfl, -⟩ := id hR
  obtain ⟨f, hf⟩ : ∃ f, f = atF (lfp rs ns) (rootF rs r) := ⟨_, rfl⟩
  rw [← hf]
  have HV := Lib.hid hf
  clear hR hN hO hf
  go_enter Try.func14, Try.ntmps14
  go_wp2
  generalize hW : World.alloc (World.alloc _ _) _ = W
  have dG : Bl W w.heap.size 25 #[.slice ra rs.length rc, .slice na ns.length nc] := by rw [← hW]; exact Bl.past (Bl.new w _ _)
  have dR : Bl W (w.heap.size + 1) 36 #[.bool false, .bool false, .bool false] := by rw [← hW]; exact Bl.new' (by simp)
  have dB : Below w.heap.size w W := by rw [← hW]; exact two_new _ _ _
  have g0 : W.cell? ⟨w.heap.size, 0, none⟩ = some (.slice ra rs.length rc) := dG.cell (o := 0) rfl
  have g1 : W.cell? ⟨w.heap.size, 1, none⟩ = some (.slice na ns.length nc) := dG.cell (o := 1) rfl
  have DG := Lib.hid dG
  have DR := Lib.hid dR
  have DB := Lib.hid dB
  clear hW dG dR dB
  go_region_with (first
    | (go_at_call 13; (with_reducible refine (HF.out _ (Below.drew DB.out)).mono ?_); rintro e w4 ⟨a4, c4, rfl, hf4, hb⟩; have HB4 := Lib.hid (bl_on (Below.drew DB.out) hb); have dG4 := DG.out.drew.below hb; have h0 : w4.cell? ⟨w.heap.size, 0, none⟩ = some (.slice ra rs.length rc) := dG4.cell (o := 0) rfl; have h1 : w4.cell? ⟨w.heap.size, 1, none⟩ = some (.slice na ns.length nc) := dG4.cell (o := 1) rfl; have DR4 := Lib.hid (DR.out.drew.below hb); have HF4 := Lib.hid hf4; clear hb hf4 dG4)
    | (go_at_call 29; (with_reducible refine (HR.out _ HB4.out).mono ?_); rintro e w5 ⟨rfl, hb⟩; have HB5 := Lib.hid (bl_on HB4.out hb); have DR5 := Lib.hid (DR4.out.below hb); have HF5 := Lib.hid (HF4.out.below hb); clear hb)
    | (go_at_call 28; (with_reducible refine (fat_any _ _ _ _ HF5.out).mono ?_); rintro e w6 ⟨he, hb⟩; rw [← HV.out] at he; unfold factV at he; obtain rfl := he; have HB6 := Lib.hid (bl_on HB5.out hb); have d6 := DR5.out.below hb; have a0 := d6.c0; have a1 := d6.c1; have a2 := d6.c2; have af := d6.free; have DR6 := Lib.hid d6; clear hb d6))
  all_goals go_wp2
  all_goals
    have d := ((DR6.out.p0 (.bool f.nul)).p1 (.bool f.eat)).p2 (.bool f.fai)
    have k0 := d.c0
    have k1 := d.c1
    have k2 := d.c2
    exact bodyPost_ret (v := factV f) (by simp [results, Try.results14, go_sem, factV, k0, k1, k2]) rfl ⟨rfl, below_p3 HB6.out (Nat.le_succ _) _ _ _⟩
end Go.Proofs.Ytocklhehfdilmaa
