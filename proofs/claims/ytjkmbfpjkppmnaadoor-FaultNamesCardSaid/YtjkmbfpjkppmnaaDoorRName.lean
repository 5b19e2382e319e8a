/- The reference's table of names: the same names, whatever the number. -/
import Derived.Test.YtjkmbfpjkppmnaaDoorNames
namespace Go.Proofs.YtjkmbfpjkppmnaaDoor
open Go.RowKit
theorem rname_low (c : Int) (w : World) (h : c < 1) :
    Calls Tryd.prog 22 #[.int .i64 c] w fun ev w' => ev = .returned (.string (nameOf c)) ∧ Below w.heap.size w w' := by
  rw [nameOf_low c h]
  go_enter Tryd.func22, Tryd.ntmps22
  go_wp2
  go_ret
  exact ⟨rfl, by go_grown⟩
theorem rname_high (c : Int) (w : World) (h : 10 < c) :
    Calls Tryd.prog 22 #[.int .i64 c] w fun ev w' => ev = .returned (.string (nameOf c)) ∧ Below w.heap.size w w' := by
  rw [nameOf_high c h]
  have h' : ¬ c < 1 := by omega
  go_enter Tryd.func22, Tryd.ntmps22
  go_wp2
  go_ret
  exact ⟨rfl, by go_grown⟩
set_option maxHeartbeats 4000000 in
theorem rname_in (i : Nat) (hi : i < 10) (w : World) :
    Calls Tryd.prog 22 #[.int .i64 ((i : Int) + 1)] w fun ev w' => ev = .returned (.string (nameOf ((i : Int) + 1))) ∧ Below w.heap.size w w' := by
  rw [nameOf_in i hi]
  have hh : i = 0 ∨ i = 1 ∨ i = 2 ∨ i = 3 ∨ i = 4 ∨ i = 5 ∨ i = 6 ∨ i = 7 ∨ i = 8 ∨ i = 9 := by omega
  rcases hh with rfl | rfl | rfl | rfl | rfl | rfl | rfl | rfl | rfl | rfl
  all_goals
    go_enter Tryd.func22, Tryd.ntmps22
    go_wp2
    go_ret
    exact ⟨rfl, by go_grown⟩
theorem rname_any (c : Int) (w : World) :
    Calls Tryd.prog 22 #[.int .i64 c] w fun ev w' => ev = .returned (.string (nameOf c)) ∧ Below w.heap.size w w' := by
  rcases Int.lt_or_le c 1 with h1 | h1
  · exact rname_low c w h1
  · rcases Int.lt_or_le 10 c with h2 | h2
    · exact rname_high c w h2
    · obtain ⟨i, rfl⟩ : ∃ i : Nat, c = (i : Int) + 1 := ⟨(c - 1).toNat, by omega⟩
      exact rname_in i (by omega) w
end Go.Proofs.YtjkmbfpjkppmnaaDoor
