/- The law MeasureReaches. -/
import Derived.Test.YtklimoepkifnhaaMeasAwake
import Derived.Test.YtklimoepkifnhaaMeasReach
import Derived.Test.YtklimoepkifnhaaGramTxt
import Derived.Test.YtklimoepkifnhaaGramLaws
import Derived.Deep.RegionWith
import Derived.Deep.Cut
namespace Go.Proofs.Ytklimoepkifnhaa
open Go.RowKit
/-- What a small valid grammar has. -/
structure Small7 (rs : List PR) (ns : List PN) : Prop where
  rl : rs.length ≤ 30
  nl : ns.length ≤ 300
  r0 : 0 < rs.length
  ord : ordR ns rs (-1) = true
  made : ∀ n, n ∈ ns → madeB n rs.length = true
theorem small7 {rs : List PR} {ns : List PN} (h : (fewB rs ns && okB (chkL rs ns)) = true) : Small7 rs ns := by
  rw [Bool.and_eq_true] at h
  obtain ⟨-, -, hrl, hnl⟩ := fewB_yes h.1
  obtain ⟨-, -, hr0, -, hgood, hord, -⟩ := chkL_ok (okB_ok h.2)
  exact ⟨hrl, hnl, hr0, hord, fun n hn => good_mem hgood hn⟩
theorem Small7.call {rs : List PR} {ns : List PN} (h : Small7 rs ns) (i : Nat) (n : PN) (hn : ns[i]? = some n) (h2 : n.op = 2) : 0 ≤ n.rule ∧ n.rule < (rs.length : Int) := (made_kind (h.made n (List.mem_of_getElem? hn))).2.2.1 h2
theorem reachL_len (rs : List PR) (ns : List PN) (r : Int) : (reachL rs ns r).length ≤ rs.length := by
  unfold reachL
  split
  · exact memb_len _ _
  · exact Nat.zero_le _
/-- Reach of both, as a law meets them. -/
def ReachIs (rs : List PR) (ns : List PN) (r : Int) (W : World) (e : Ending) (w' : World) : Prop := ∃ a c, e = .returned (.slice a (reachL rs ns r).length c) ∧ IntsAt w' (.slice a (reachL rs ns r).length c) ((reachL rs ns r).map fun k : Nat => (k : Int)) ∧ Below W.heap.size W w'
theorem reach7 {rv : Value} {na : Option Addr} {nc : Nat} {rs : List PR} {ns : List PN} {w : World} (hS : Small7 rs ns) (hR : RulesIn w rv rs) (hN : NodesAt w (.slice na ns.length nc) ns) (hc : ns.length ≤ nc) (W : World) (hb : Below w.heap.size w W) (r : Int) :
    Calls Try.prog 19 #[.agg #[rv, .slice na ns.length nc], .int .i64 r] W (ReachIs rs ns r W) :=
  (reach_any rv na nc rs ns r W (hR.kept hb (Nat.le_refl _)) (hN.kept hb (Nat.le_refl _)) (by have := hS.nl; omega) (by have := hS.rl; omega) hc hS.ord hS.call).mono fun _ _ h => h.row
theorem rreach7 {rv : Value} {na : Option Addr} {nc : Nat} {rs : List PR} {ns : List PN} {w : World} (hS : Small7 rs ns) (hR : RulesIn w rv rs) (hN : NodesAt w (.slice na ns.length nc) ns) (W : World) (hb : Below w.heap.size w W) (r : Int) :
    Calls Try.prog 20 #[.agg #[rv, .slice na ns.length nc], .int .i64 r] W (ReachIs rs ns r W) :=
  (rreach_any rv na nc rs ns r W (hR.kept hb (Nat.le_refl _)) (hN.kept hb (Nat.le_refl _)) (by have := hS.nl; omega) (by have := hS.rl; omega) hS.ord hS.call).mono fun _ _ h => h.row
set_option maxHeartbeats 8000000 in
set_option maxRecDepth 100000 in
theorem law7_reaches (rv nv : Value) (rs : List PR) (ns : List PN) (r : Int) (w : World) (hR : RulesIn w rv rs) (hN : NodesAt w nv ns) (hcap : ∀ a n cap, nv = .slice a n cap → n ≤ cap) :
    Calls Try.prog 5 #[.agg #[rv, nv], .int .i64 r] w fun e w' => e = .returned (.bool true) ∧ Below w.heap.size w w' := by
  have HS := Lib.hid (fun (W : World) (hb : Below w.heap.size w W) => rsmall_any rv nv rs ns W (hR.kept hb (Nat.le_refl _)) (hN.kept hb (Nat.le_refl _)))
  cases hsm : (fewB rs ns && okB (chkL rs ns)) with
  | false =>
    rw [hsm] at HS
    obtain ⟨-, ra, rc, rfl, -⟩ := hR
    obtain ⟨-, na, nc, rfl, -⟩ := hN
    clear hsm hcap
    go_enter Try.func5, Try.ntmps5
    go_upto_region 2 with (first
      | (go_at_call 8; (with_reducible refine (awake7_any _).mono ?_); rintro e w2 ⟨rfl, hb⟩; have HW := Lib.hid ((one_new w _).trans (hb.mono (one_new w _).size)); have b0 := (bcell hb).1 w.heap.size 0 (by simp); have b1 := (bcell hb).1 w.heap.size 1 (by simp); simp at b0 b1; clear hb)
      | (go_at_call 9; (with_reducible refine (HS.out _ HW.out).mono ?_); rintro e w3 ⟨rfl, hb⟩; replace HW := Lib.hid (HW.out.trans (hb.mono HW.out.size)); clear hb))
    go_wp2_with (go_at_call 8; (with_reducible refine (awake7_any _).mono ?_); rintro e w4 ⟨rfl, hb⟩; replace HW := Lib.hid (HW.out.trans (hb.mono HW.out.size)); clear hb)
    go_ret
    exact ⟨rfl, HW.out⟩
  | true =>
    have hS := small7 hsm
    rw [hsm] at HS
    obtain ⟨na, nc, rfl⟩ : ∃ na nc, nv = .slice na ns.length nc := by obtain ⟨-, na, nc, rfl, -⟩ := hN; exact ⟨na, nc, rfl⟩
    have HR1 := Lib.hid (fun (W : World) (hb : Below w.heap.size w W) => reach7 hS hR hN (hcap _ _ _ rfl) W hb r)
    have HR2 := Lib.hid (fun (W : World) (hb : Below w.heap.size w W) => rreach7 hS hR hN W hb r)
    have hl : ((reachL rs ns r).map fun k : Nat => (k : Int)).length ≤ maxLen := by
      have h1 := reachL_len rs ns r
      have h2 := hS.rl
      rw [List.length_map]; unfold maxLen; omega
    have HL := Lib.hid hl
    unfold ReachIs at HR1 HR2
    obtain ⟨-, ra, rc, rfl, -⟩ := hR
    clear hsm hcap hS hN hl
    go_enter Try.func5, Try.ntmps5
    go_upto_region 3 with (first
      | (go_at_call 8; (with_reducible refine (awake7_any _).mono ?_); rintro e w2 ⟨rfl, hb⟩; have HW := Lib.hid ((one_new w _).trans (hb.mono (one_new w _).size)); have b0 := (bcell hb).1 w.heap.size 0 (by simp); have b1 := (bcell hb).1 w.heap.size 1 (by simp); simp at b0 b1; clear hb)
      | (go_at_call 9; (with_reducible refine (HS.out _ HW.out).mono ?_); rintro e w3 ⟨rfl, hb⟩; replace HW := Lib.hid (HW.out.trans (hb.mono HW.out.size)); have d0 := (bcell hb).1 _ 0 (lt_of_cell b0); have d1 := (bcell hb).1 _ 1 (lt_of_cell b1); rw [b0] at d0; rw [b1] at d1; clear hb b0 b1))
    go_region_with (first
      | (go_at_call 19; (with_reducible refine (HR1.out _ HW.out.drew).mono ?_); rintro e w5 ⟨a5, c5, rfl, hi, hb⟩; have HW5 := Lib.hid (HW.out.drew.trans (hb.mono HW.out.drew.size)); have HI5 := Lib.hid hi; have e0 := (bcell hb).1 _ 0 (lt_of_cell d0); have e1 := (bcell hb).1 _ 1 (lt_of_cell d1); simp only [World.cell?_drew] at e0 e1; rw [d0] at e0; rw [d1] at e1; clear hb hi)
      | (go_at_call 20; (with_reducible refine (HR2.out _ HW5.out).mono ?_); rintro e w6 ⟨a6, c6, rfl, hi, hb⟩; have HW6 := Lib.hid (HW5.out.trans (hb.mono HW5.out.size)); have HI6 := Lib.hid hi; have HI56 := Lib.hid (HI5.out.kept hb (Nat.le_refl _)); clear hb hi)
      | (go_at_call 18; (with_reducible refine (intsEq_any _ _ _ _ _ HL.out HI56.out HI6.out).mono ?_); rintro e w7 ⟨he, q, hw⟩; rw [decide_eq_true rfl] at he; obtain rfl := he; have HW7 := Lib.hid (show Below w.heap.size w w7 by rw [hw]; exact below_drewN HW6.out); clear hw))
    all_goals
      go_wp2
      go_ret
      exact ⟨rfl, HW7.out⟩
end Go.Proofs.Ytklimoepkifnhaa
