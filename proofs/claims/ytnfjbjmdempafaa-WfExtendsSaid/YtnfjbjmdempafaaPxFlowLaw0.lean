/- flow: what a small valid grammar has. -/
import Derived.Test.YtnfjbjmdempafaaPxFlowOf
import Derived.Test.YtnfjbjmdempafaaPxFlowROf
import Derived.Test.YtnfjbjmdempafaaPxG2
namespace Go.Proofs.Ytnfjbjmdempafaa
open Go.RowKit
theorem okB_ok11 {c : Chk} (h : okB c = true) : c = .ok := by cases c <;> first | rfl | cases h
theorem made_one {n : PN} {R : Nat} (h : madeB n R = true) (h5 : 5 ≤ n.op) : ∃ k, n.kids = [k] := by
  unfold madeB at h
  simp only [Bool.and_eq_true, decide_eq_true_eq] at h
  obtain ⟨⟨⟨-, h2⟩, -⟩, -⟩ := h
  rw [if_neg (by omega), if_neg (by omega)] at h2
  have : n.kids.length = 1 := by simpa using h2
  match hk : n.kids, this with
  | [k], _ => exact ⟨k, rfl⟩
theorem small11 {rs : List PR} {ns : List PN} (h : (fewB rs ns && okB (chkL rs ns)) = true) : FlowOk rs ns ∧ 0 < rs.length ∧ rs.length ≤ 30 := by
  rw [Bool.and_eq_true] at h
  obtain ⟨-, hkl, hrl, hnl⟩ := fewB_yes h.1
  obtain ⟨-, -, hr0, -, hgood, hord, -⟩ := chkL_ok (okB_ok11 h.2)
  have hK := (ordR_ex hord).kids
  refine ⟨⟨Nat.le_trans hnl (by decide), hkl, fun n hn => ?_⟩, hr0, hrl⟩
  have hm := good_mem hgood hn
  obtain ⟨h0, h9, h2, -⟩ := made_kind hm
  obtain ⟨i, hi⟩ := List.getElem?_of_mem hn
  have hil := (List.getElem?_eq_some_iff.1 hi).1
  refine ⟨⟨h0, h9, made_one hm⟩, fun k hk => ?_, fun e2 => ?_⟩
  · have := hK i n hi k hk
    omega
  · obtain ⟨r0, r1⟩ := h2 e2
    obtain ⟨r, hr⟩ : ∃ r : Nat, n.rule = r := ⟨n.rule.toNat, by omega⟩
    obtain ⟨x, hx⟩ : ∃ x, rs[r]? = some x := ⟨_, List.getElem?_eq_getElem (by omega)⟩
    obtain ⟨⟨g1, g2, g3⟩, -⟩ := own_span rs (-1) (by omega) hord r x hx
    exact ⟨r, x, hr, hx, by omega, g3⟩
/-- A rule's root is a node. -/
theorem root11 {rs : List PR} {ns : List PN} (h : (fewB rs ns && okB (chkL rs ns)) = true) {r : Nat} {x : PR} (hx : rs[r]? = some x) : 0 ≤ x.root ∧ x.root < (ns.length : Int) := by
  rw [Bool.and_eq_true] at h
  obtain ⟨-, -, -, -, -, hord, -⟩ := chkL_ok (okB_ok11 h.2)
  obtain ⟨⟨g1, g2, g3⟩, -⟩ := own_span rs (-1) (by omega) hord r x hx
  exact ⟨by omega, g3⟩
theorem rsame11_yes (u v : Value) (l : List Fc) (w : World) (hu : FactsAt w u l) (hv : FactsAt w v l) (hl : l.length ≤ 1000000) :
    Calls Try.prog 25 #[u, v] w fun e w' => e = .returned (.bool true) ∧ Below w.heap.size w w' :=
  (rsame11_any u v l l w hu hv hl).mono fun e w' ⟨h1, q, h2⟩ => ⟨by rw [h1, decide_eq_true (rfl : l = l)], by rw [h2]; exact below_drewN (Below.refl _ _)⟩
end Go.Proofs.Ytnfjbjmdempafaa
