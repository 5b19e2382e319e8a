/- gram.First on a grammar in post-order. -/
import Derived.Test.YtklimoepkifnhaaGramSame
namespace Go.Proofs.Ytklimoepkifnhaa
open Go.RowKit
theorem one_new (w : World) (o : Obj) : Below w.heap.size w (w.alloc o) := (Below.refl _ _).alloc (Nat.le_refl _) _
set_option maxHeartbeats 2000000 in
set_option maxRecDepth 100000 in
theorem first_any (ra : Option Addr) (rn rc : Nat) (nv : Value) (ns : List PN) (i : Nat) (w : World) (hN : NodesAt w nv ns) (hi : i < ns.length) (hA : exL ns i ≠ -2) :
    Calls Try.prog 42 #[.agg #[.slice ra rn rc, nv], .int .i64 (i : Int)] w fun e w' => e = .returned (.int .i64 (fstL ns i)) ∧ Below w.heap.size w w' := by
  obtain ⟨hl, a, ca, rfl, ha⟩ := hN
  unfold maxLen at hl
  rcases ha with h0 | ⟨nb, no, rfl, hca⟩
  · rw [h0] at hi; exact absurd hi (Nat.not_lt_zero _)
  have HA := Lib.hid hA
  clear hA
  go_enter Try.func42, Try.ntmps42
  go_wp2
  go_loop [1] (fun v => ∃ j : Nat, v = .int .i64 j ∧ j < ns.length ∧ exL ns j ≠ -2 ∧ fstL ns j = fstL ns i) (fun v => (intOf v).toNat)
  case atStart => exact ⟨i, rfl, hi, HA.out, rfl⟩
  case round =>
    obtain ⟨j, rfl, hj, hex, hf⟩ := hrel
    obtain ⟨n, hn⟩ : ∃ n, ns[j]? = some n := ⟨_, List.getElem?_eq_getElem hj⟩
    obtain ⟨kv, c0, c1, c2, c3, c4, c5, c6, ci, cl⟩ := hca j n hn
    obtain ⟨ka, kc, rfl, hk⟩ := ci
    have lb := lt_of_cell c0
    have hks := kidsAt_some hn
    unfold maxLen at cl
    have j1 : (j : Int) < (ns.length : Int) := by omega
    have HF := Lib.hid hf
    have HN := Lib.hid hn
    clear hf hn hca c0 c2 c3 c4 c5 c6
    cases hkk : n.kids with
    | nil =>
      have hz : ¬ (0 : Int) < (n.kids.length : Int) := by rw [hkk]; simp
      have HR : Hid (fstL ns j = (j : Int)) := Lib.hid (fstL_nil (by omega) (by rw [show (j : Int).toNat = j by omega, hks, hkk]))
      clear hkk hks hex hk
      go_wp2
      go_ret
      exact ⟨ret_int (by rw [← HF.out, HR.out]), one_new _ _⟩
    | cons k ks =>
      obtain ⟨e1, e2, e3, e4⟩ := fstL_cons (ns := ns) (i := (j : Int)) (k := k) (ks := ks) (by omega) hex (by rw [show (j : Int).toNat = j by omega, hks, hkk])
      have hz : (0 : Int) < (n.kids.length : Int) := by rw [hkk]; simp
      rcases hk with h0 | ⟨kb, ko, rfl, hkc⟩
      · rw [h0] at hkk; cases hkk
      have c7 : w.cell? ⟨kb, ko, none⟩ = some (.int .i64 k) := hkc 0 k (by rw [hkk]; rfl)
      have lk := lt_of_cell c7
      have hlt : ¬ (j : Int) ≤ k := by omega
      obtain ⟨m, rfl⟩ : ∃ m : Nat, k = m := ⟨k.toNat, by omega⟩
      have E1 := Lib.hid e1
      have E4 := Lib.hid e4
      clear hkk hks hex hkc e1 e4
      go_wp2
      go_round
      case rel => exact ⟨m, rfl, by omega, E4.out, by rw [← E1.out, HF.out]⟩
      case measure => simp [intOf]; omega
end Go.Proofs.Ytklimoepkifnhaa
