/- The names of codes: the array of the program and the table of the reference; the shelf's contract for strconv.Itoa at a small number is laid beside. -/
import Derived.Test.YtjkmbfpjkppmnaaDoorFaults
namespace Go.Proofs.YtjkmbfpjkppmnaaDoor
open Go.RowKit
/-- The ten names. -/
def nm : List ByteArray := [⟨#[115, 121, 110, 116, 97, 120]⟩, ⟨#[100, 117, 112, 108, 105, 99, 97, 116, 101]⟩, ⟨#[117, 110, 100, 101, 102, 105, 110, 101, 100]⟩, ⟨#[116, 111, 111, 32, 108, 97, 114, 103, 101]⟩, ⟨#[116, 111, 111, 32, 100, 101, 101, 112]⟩,
  ⟨#[110, 111, 116, 32, 119, 101, 108, 108, 45, 102, 111, 114, 109, 101, 100]⟩, ⟨#[115, 116, 101, 112, 115]⟩, ⟨#[102, 117, 108, 108]⟩, ⟨#[111, 118, 101, 114, 102, 108, 111, 119]⟩, ⟨#[119, 114, 111, 110, 103]⟩]
def nameOf (c : Int) : ByteArray := if 1 ≤ c ∧ c ≤ 10 then nm.getD (c - 1).toNat ⟨#[]⟩ else ⟨#[]⟩
theorem nm_len : nm.length = 10 := rfl
theorem nameOf_in (i : Nat) (hi : i < 10) : nameOf ((i : Int) + 1) = nm.getD i ⟨#[]⟩ := by
  unfold nameOf
  rw [if_pos ⟨by omega, by omega⟩, show ((i : Int) + 1 - 1).toNat = i by omega]
theorem nameOf_low (c : Int) (h : c < 1) : nameOf c = ⟨#[]⟩ := by
  unfold nameOf
  rw [if_neg (by omega)]
theorem nameOf_high (c : Int) (h : 10 < c) : nameOf c = ⟨#[]⟩ := by
  unfold nameOf
  rw [if_neg (by omega)]
theorem ret_str {a b : ByteArray} (h : a = b) : Ending.returned (.string a) = .returned (.string b) := by rw [h]
theorem name_low (c : Int) (w : World) (h : c < 1) :
    Calls Tryd.prog 21 #[.int .i64 c] w fun ev w' => ev = .returned (.string (nameOf c)) ∧ w' = w := by
  rw [nameOf_low c h]
  go_enter Tryd.func21, Tryd.ntmps21
  go_wp2
  go_ret
  exact ⟨rfl, rfl⟩
theorem name_high (c : Int) (w : World) (h : 10 < c) :
    Calls Tryd.prog 21 #[.int .i64 c] w fun ev w' => ev = .returned (.string (nameOf c)) ∧ w' = w := by
  rw [nameOf_high c h]
  have h' : ¬ c < 1 := by omega
  go_enter Tryd.func21, Tryd.ntmps21
  go_wp2
  go_ret
  exact ⟨rfl, rfl⟩
theorem name_in (i : Nat) (hi : i < 10) (w : World) (h : w.cell? ⟨1, i, none⟩ = some (.string (nm.getD i ⟨#[]⟩))) :
    Calls Tryd.prog 21 #[.int .i64 ((i : Int) + 1)] w fun ev w' => ev = .returned (.string (nameOf ((i : Int) + 1))) ∧ w' = w := by
  rw [nameOf_in i hi]
  generalize nm.getD i ⟨#[]⟩ = s at h ⊢
  have h1 : ¬ (i : Int) + 1 < 1 := by omega
  have h2 : ¬ 10 < (i : Int) + 1 := by omega
  have h3 : (i : Int) < 10 := by omega
  go_enter Tryd.func21, Tryd.ntmps21
  go_wp2
  go_ret
  exact ⟨rfl, rfl⟩
theorem name_any (c : Int) (w : World) (h : ∀ i, i < 10 → w.cell? ⟨1, i, none⟩ = some (.string (nm.getD i ⟨#[]⟩))) :
    Calls Tryd.prog 21 #[.int .i64 c] w fun ev w' => ev = .returned (.string (nameOf c)) ∧ w' = w := by
  rcases Int.lt_or_le c 1 with h1 | h1
  · exact name_low c w h1
  · rcases Int.lt_or_le 10 c with h2 | h2
    · exact name_high c w h2
    · obtain ⟨i, rfl⟩ : ∃ i : Nat, c = (i : Int) + 1 := ⟨(c - 1).toNat, by omega⟩
      exact name_in i (by omega) w (h i (by omega))
end Go.Proofs.YtjkmbfpjkppmnaaDoor
