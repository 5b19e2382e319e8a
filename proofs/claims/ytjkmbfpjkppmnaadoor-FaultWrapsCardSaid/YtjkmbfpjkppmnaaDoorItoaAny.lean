/- strconv.Itoa at every integer, whatever the library's table holds: one string in every world in which the table holds the same. -/
import Derived.Test.YtjkmbfpjkppmnaaDoorFormatInt
import Derived.Test.YtjkmbfpjkppmnaaDoorTexts
namespace Go.Proofs.YtjkmbfpjkppmnaaDoor
open Go.RowKit Go.Sort
/-- The string that Itoa returns where the library's table holds T. -/
def itoaT (T : Nat → Int) (n : Int) : ByteArray :=
  if 0 ≤ n ∧ n < 100 then ⟨(Lib.decDigits n.toNat).toArray⟩
  else if n < 0 then ⟨(45 :: (rowOf T n.natAbs).toList).toArray⟩ else ⟨rowOf T n.natAbs⟩
theorem Tab.kept {T : Nat → Int} {n : Nat} {w w1 : World} (h : Tab T w) (hb : Below n w w1) (hn : w.heap.size ≤ n) : Tab T w1 := fun i hi => by
  have := lt_of_cell (h i hi)
  rw [(bcell hb).1 _ _ (by omega)]; exact h i hi
theorem formatInt_small (i : Nat) (hi : i < 100) (w : World) :
    Calls Tryd.prog 60 #[.int .i64 i, .int .i64 10] w fun e w' => e = .returned (.string ⟨(Lib.decDigits i).toArray⟩) ∧ Below w.heap.size w w' := by
  have h0 : (i : Int) < 100 := by omega
  have hs := fun w => small_any i hi w
  have HS := Lib.hid hs
  clear hs
  go_enter Tryd.func60, Tryd.ntmps60
  go_wp2_with (go_at_call 61; refine (HS.out _).mono ?_; rintro e w' ⟨rfl, hw⟩; obtain rfl := hw.symm; clear hw)
  go_ret
  exact ⟨rfl, Below.refl _ _⟩
theorem formatInt_any (T : Nat → Int) (n : Int) (h0 : -9223372036854775808 ≤ n) (h1 : n ≤ 9223372036854775807) (w : World) (htab : Tab T w) :
    Calls Tryd.prog 60 #[.int .i64 n, .int .i64 10] w fun e w' => e = .returned (.string (itoaT T n)) ∧ Below w.heap.size w w' := by
  unfold itoaT
  by_cases hs : 0 ≤ n ∧ n < 100
  · rw [if_pos hs]
    obtain ⟨i, rfl⟩ : ∃ i : Nat, n = i := ⟨n.toNat, by omega⟩
    exact formatInt_small i (by omega) w
  · rw [if_neg hs]
    by_cases hn : n < 0
    · rw [if_pos hn]
      obtain ⟨u, rfl⟩ : ∃ u : Nat, n = -(u : Int) := ⟨n.natAbs, by omega⟩
      have e : (-(u : Int)).natAbs = u := by omega
      rw [e]
      exact formatInt_neg T u (by omega) (by omega) w htab
    · rw [if_neg hn]
      obtain ⟨u, rfl⟩ : ∃ u : Nat, n = u := ⟨n.toNat, by omega⟩
      have e : (u : Int).natAbs = u := by omega
      rw [e]
      exact formatInt_pos T u (by omega) (by omega) w htab
theorem iItoa_any (T : Nat → Int) (n : Int) (h0 : -9223372036854775808 ≤ n) (h1 : n ≤ 9223372036854775807) (w : World) (htab : Tab T w) :
    Calls Tryd.prog 59 #[.int .i64 n] w fun e w' => e = .returned (.string (itoaT T n)) ∧ Below w.heap.size w w' := by
  have hf := formatInt_any T n h0 h1 w htab
  generalize itoaT T n = s at hf ⊢
  clear htab
  go_enter Tryd.func59, Tryd.ntmps59
  go_wp2_with (go_at_call 60; refine hf.mono ?_; rintro e w' ⟨rfl, hb⟩; have HB := Lib.hid hb; clear hb)
  go_ret
  exact ⟨rfl, HB.out⟩
theorem itoa_any (T : Nat → Int) (n : Int) (h0 : -9223372036854775808 ≤ n) (h1 : n ≤ 9223372036854775807) (w : World) (htab : Tab T w) :
    Calls Tryd.prog 58 #[.int .i64 n] w fun e w' => e = .returned (.string (itoaT T n)) ∧ Below w.heap.size w w' := by
  have hf := iItoa_any T n h0 h1 w htab
  generalize itoaT T n = s at hf ⊢
  clear htab
  go_enter Tryd.func58, Tryd.ntmps58
  go_wp2_with (go_at_call 59; refine hf.mono ?_; rintro e w' ⟨rfl, hb⟩; have HB := Lib.hid hb; clear hb)
  go_ret
  exact ⟨rfl, HB.out⟩
theorem nDigits_le (u : Nat) (h1 : 1 ≤ u) (h2 : u < 18446744073709551616) : Lib.nDigits u ≤ 20 := by
  obtain ⟨hd, h19⟩ := Lib.numDigits_eq u h1 h2
  rw [← hd]
  split <;> omega
theorem itoaT_size (T : Nat → Int) (n : Int) (h0 : -9223372036854775808 ≤ n) (h1 : n ≤ 9223372036854775807) : (itoaT T n).size ≤ 30 := by
  unfold itoaT
  by_cases hs : 0 ≤ n ∧ n < 100
  · rw [if_pos hs]
    show (Lib.decDigits n.toNat).toArray.size ≤ 30
    rw [List.size_toArray, Lib.decDigits_length]
    rcases Nat.eq_zero_or_pos n.toNat with h | h
    · rw [h]; decide +kernel
    · have := nDigits_le n.toNat h (by omega); omega
  · rw [if_neg hs]
    have hk : ndT T n.natAbs ≤ 20 := ndOf_le n.natAbs (by omega) (by omega) _
    by_cases hn : n < 0
    · rw [if_pos hn]
      show (45 :: (rowOf T n.natAbs).toList).toArray.size ≤ 30
      rw [List.size_toArray, List.length_cons, Array.length_toList, rowOf_size]; omega
    · rw [if_neg hn]
      show (rowOf T n.natAbs).size ≤ 30
      rw [rowOf_size]; omega
theorem itoas_any (T : Nat → Int) (n : Int) (h0 : -9223372036854775808 ≤ n) (h1 : n ≤ 9223372036854775807) (W : World) (htab : Tab T W) : Itoas W n (itoaT T n) :=
  ⟨itoaT_size T n h0 h1, fun w' hb => itoa_any T n h0 h1 w' (htab.kept hb (Nat.le_refl _))⟩
/-- The text of an error where the library's table holds T. -/
def Err.textT (T : Nat → Int) : Err → ByteArray
  | .code c => ⟨#[101, 114, 114, 111, 114, 32]⟩ ++ itoaT T c
  | .fault c _ => ⟨#[101, 114, 114, 111, 114, 32]⟩ ++ itoaT T c
  | .text _ t => t
  | .within _ r e => ⟨#[114, 117, 108, 101, 32]⟩ ++ r ++ ⟨#[58, 32]⟩ ++ e.textT T
def Err.Ok : Err → Prop
  | .code c => -9223372036854775808 ≤ c ∧ c ≤ 9223372036854775807
  | .fault c _ => -9223372036854775808 ≤ c ∧ c ≤ 9223372036854775807
  | .text _ _ => True
  | .within _ _ e => e.Ok
theorem textIs_T (T : Nat → Int) (W : World) (htab : Tab T W) : ∀ e : Err, e.Ok → e.TextIs W (e.textT T)
  | .code c, h => ⟨_, itoas_any T c h.1 h.2 W htab, rfl⟩
  | .fault c _, h => ⟨_, itoas_any T c h.1 h.2 W htab, rfl⟩
  | .text _ _, _ => rfl
  | .within _ _ e, h => ⟨_, textIs_T T W htab e h, rfl⟩
end Go.Proofs.YtjkmbfpjkppmnaaDoor
