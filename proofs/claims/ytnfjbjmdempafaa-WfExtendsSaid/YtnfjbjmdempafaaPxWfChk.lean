/- wf.Check. -/
import Derived.Test.YtnfjbjmdempafaaPxWF
namespace Go.Proofs.Ytnfjbjmdempafaa
open Go.RowKit
/-- Where an error of Check lies. -/
def ChkErr (nm : ByteArray) (i : Int) (w : World) (e : Ending) (w' : World) : Prop := (∃ b, e = .returned (.iface 91 (.pointer (some ⟨b, 0, none⟩))) ∧ w'.cell? ⟨b, 0, none⟩ = some (.string nm) ∧ w'.cell? ⟨b, 1, none⟩ = some (.iface 97 (.agg #[.int .i64 6, .int .i64 i]))) ∧ Below w.heap.size w w'
theorem ChkErr.mk {nm : ByteArray} {i : Int} {w W : World} {n : Nat} (hn : n = W.heap.size) (hb : Below w.heap.size w W) : ChkErr nm i w (.returned (.iface 91 (.pointer (some ⟨n, 0, none⟩)))) (W.alloc (.cells #[.string nm, .iface 97 (.agg #[.int .i64 6, .int .i64 i])] 93)) := by
  subst hn
  exact ⟨⟨_, rfl, by simp, by simp⟩, hb.alloc hb.size _⟩
set_option maxHeartbeats 4000000 in
theorem wcheck_yes (rv nv : Value) (rs : List PR) (ns : List PN) (i : Nat) (t : List Int) (w : World) (hR : RulesIn w rv rs) (hN : NodesAt w nv ns) (hC : CapsAt w nv ns.length) (hO : FlowOk rs ns) (hb : badL rs ns = (i : Int) :: t) (hU : RootsUp (-1) rs) (hs : rs.length ≤ 1000000) (hnm : ∀ r, r ∈ rs → r.name.size ≤ 1000) (ho : ownL rs (i : Int) < rs.length) :
    Calls Try.prog 20 #[.agg #[rv, nv]] w (ChkErr (ruleNm rs i) (i : Int) w) := by
  have hone := Lib.hid (one_new w (.cells #[rv, nv] 25))
  have HW := Lib.hid (wwrong_any rv nv rs ns _ (hR.kept hone.out (Nat.le_refl _)) (hN.kept hone.out (Nat.le_refl _)) (hC.kept hN rfl hone.out) hO)
  have HRN := Lib.hid (fun (W : World) (hb : Below w.heap.size w W) => wrname_any rv nv rs ns i W (hR.kept hb (Nat.le_refl _)) (hN.kept hb (Nat.le_refl _)) hU hs hnm ho)
  obtain ⟨-, ra, rc, rfl, -⟩ := hR
  obtain ⟨-, na, nc, rfl, -⟩ := hN
  unfold RowIs at HW
  rw [hb] at HW
  have HG := Lib.hid (Bl.new w 25 #[.slice ra rs.length rc, .slice na ns.length nc])
  have hlt : (0 : Int) < ((((i : Int) :: t).length : Nat) : Int) := by simp only [List.length_cons]; omega
  have hne : ((((((i : Int) :: t).length : Nat) : Int)) == 0) = false := ibeq_no (by simp only [List.length_cons]; omega)
  generalize hl : ((i : Int) :: t).length = m at *
  generalize ruleNm rs i = nm at *
  clear hC hO hb hU hs hnm ho
  go_enter Try.func20, Try.ntmps20
  go_upto_region 4 with (go_at_call 36; (with_reducible refine HW.out.mono ?_); rintro e w2 ⟨v, rfl, ho, hb⟩; obtain ⟨va, vc, rfl⟩ := own_slice' ho; obtain ⟨g, rfl, hgb, hc, -⟩ := own_open' ho (by omega); have c0 := hc 0 (.int .i64 (i : Int)) rfl; have HB2 := Lib.hid (bl_on hone.out hb); have hg2 := HG.out.below hb; have HG2 := Lib.hid hg2; have HC0 := Lib.hid c0; have lc := lt_of_cell c0; have lg := hg2.lt; clear ho hb hc hgb hg2 c0)
  have c0 := HC0.out
  have g0 := HG2.out.cell (o := 0) (u := .slice ra rs.length rc) rfl
  have g1 := HG2.out.cell (o := 1) (u := .slice na ns.length nc) rfl
  have HRN2 := Lib.hid (HRN.out w2.drew (below_drewN (m := 1) HB2.out))
  go_region_with (first
    | (go_at_call 38; go_loud ((with_reducible refine HRN2.out.mono ?_); rintro e w3 ⟨rfl, hb⟩; have HB3 := Lib.hid (bl_on (HB2.out.drew) hb); have c3 : w3.cell? ⟨g, 0, none⟩ = some (.int .i64 (i : Int)) := ((bcell hb).1 g 0 (show g < w2.drew.heap.size from lc)).trans HC0.out; have lc3 := lt_of_cell c3; clear hb))
    | (go_at_call 39; (with_reducible refine (gNew_any 6 (i : Int) _).mono ?_); rintro e w4 ⟨rfl, hw⟩; obtain rfl := hw)
    | (go_at_call 37; (with_reducible refine (gWithin_any nm 6 (i : Int) _).mono ?_); rintro e w5 ⟨rfl, rfl⟩))
  all_goals
    go_wp2_with fail
    go_ret
    exact ChkErr.mk rfl HB3.out
end Go.Proofs.Ytnfjbjmdempafaa
