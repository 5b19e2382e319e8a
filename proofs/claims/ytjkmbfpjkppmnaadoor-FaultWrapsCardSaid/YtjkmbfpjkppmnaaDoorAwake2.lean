/- The law's own check of the fixed examples: it returns true in every world in which the two listed variables hold what they hold. -/
import Derived.Test.YtjkmbfpjkppmnaaDoorTexts
namespace Go.Proofs.YtjkmbfpjkppmnaaDoor
open Go.RowKit
/-- The two variables that the rows list. -/
def Laid (w : World) : Prop := w.cell? ⟨0, 0, none⟩ = some (rt 28) ∧ ∀ i, i < 10 → w.cell? ⟨1, i, none⟩ = some (.string (nm.getD i ⟨#[]⟩))
theorem Laid.kept {n : Nat} {w w1 : World} (h : Laid w) (hb : Below n w w1) (hn : w.heap.size ≤ n) : Laid w1 := by
  refine ⟨?_, fun i hi => ?_⟩
  · have := lt_of_cell h.1
    rw [(bcell hb).1 _ _ (by omega)]; exact h.1
  · have := lt_of_cell (h.2 i hi)
    rw [(bcell hb).1 _ _ (by omega)]; exact h.2 i hi
/-- The example's error. -/
abbrev exA (b : Nat) : Err := .within b ⟨#[97]⟩ (.fault 1 7)
theorem Code_A (b : Nat) (w : World) (he : (exA b).In w) (hl : Laid w) :
    Calls Tryd.prog 11 #[.iface 60 (.pointer (some ⟨b, 0, none⟩))] w fun ev w' => ev = .returned (.tuple #[.int .i64 1, .bool true]) ∧ Below w.heap.size w w' := Code_some (exA b) 1 w rfl he hl.1
theorem At_A (b : Nat) (w : World) (he : (exA b).In w) (hl : Laid w) :
    Calls Tryd.prog 12 #[.iface 60 (.pointer (some ⟨b, 0, none⟩))] w fun ev w' => ev = .returned (.tuple #[.int .i64 7, .bool true]) ∧ Below w.heap.size w w' := At_some (exA b) 1 7 w rfl he hl.1
theorem Rule_A (b : Nat) (w : World) (he : (exA b).In w) (hl : Laid w) :
    Calls Tryd.prog 13 #[.iface 60 (.pointer (some ⟨b, 0, none⟩))] w fun ev w' => ev = .returned (.tuple #[.string ⟨#[97]⟩, .bool true]) ∧ Below w.heap.size w w' := Rule_within b ⟨#[97]⟩ (.fault 1 7) w he hl.1
theorem Error_A (b : Nat) (w : World) (he : (exA b).In w) :
    Calls Tryd.prog 74 #[.pointer (some ⟨b, 0, none⟩)] w fun ev w' => ev = .returned (.string ⟨#[114, 117, 108, 101, 32, 97, 58, 32, 101, 114, 114, 111, 114, 32, 49]⟩) ∧ Below w.heap.size w w' :=
  error_any (exA b) ⟨#[114, 117, 108, 101, 32, 97, 58, 32, 101, 114, 114, 111, 114, 32, 49]⟩ w w ⟨⟨#[101, 114, 114, 111, 114, 32, 49]⟩, ⟨⟨#[49]⟩, itoas_one w, by decide +kernel⟩, by decide +kernel⟩ (by decide +kernel) he (Below.refl _ _)
theorem Name_8 (w : World) (hl : Laid w) :
    Calls Tryd.prog 21 #[.int .i64 8] w fun ev w' => ev = .returned (.string ⟨#[102, 117, 108, 108]⟩) ∧ w' = w :=
  (name_any 8 w hl.2).mono fun ev w' h => ⟨h.1.trans (ret_str (by decide +kernel)), h.2⟩
theorem Within_A (w : World) :
    Calls Tryd.prog 15 #[.string ⟨#[97]⟩, .iface 41 (.agg #[.int .i64 1, .int .i64 7])] w fun ev w' => ev = .returned (.iface 60 (.pointer (some ⟨w.heap.size, 0, none⟩))) ∧ (exA w.heap.size).In w' ∧ Below w.heap.size w w' :=
  (Within_any ⟨#[97]⟩ (.fault 1 7) w).mono fun ev w' ⟨h1, h2⟩ => ⟨h1, by subst h2; exact ⟨by simp, by simp, trivial⟩, by subst h2; exact (Below.refl _ _).alloc (Nat.le_refl _) _⟩
theorem m_error_W (v : Value) (w : World) : (Go.method 248 60 v "Error").run Tryd.prog w = .ok (74, v) w := by kernel_rfl
theorem n_error_W (a : Addr) (w : World) : (nilAhead 248 60 (.pointer (some a)) "Error").run Tryd.prog w = .ok (some false) w := by kernel_rfl
set_option maxRecDepth 100000 in
set_option maxHeartbeats 4000000 in
theorem awake_any (w : World) (hl : Laid w) : Calls Tryd.prog 8 #[] w fun ev w' => ev = .returned (.bool true) ∧ Below w.heap.size w w' := by
  have me := m_error_W
  have ne := n_error_W
  have HL := Lib.hid hl
  clear hl
  go_enter Tryd.func8, Tryd.ntmps8
  go_wp2_with (first
    | (go_at_call 23; refine (New_any _ _ _).mono ?_; rintro ev w1 ⟨rfl, hw⟩; obtain rfl := hw.symm; clear hw)
    | (go_at_call 15; with_reducible refine (Within_A _).mono ?_; rintro ev w1 ⟨rfl, hI, hb⟩; have HI := Lib.hid hI; have HB := Lib.hid hb; replace HL := Lib.hid (HL.out.kept hb (Nat.le_refl _)); clear hI hb)
    | (go_at_call 15; with_reducible refine (Within_nil _ _).mono ?_; rintro ev w9 ⟨rfl, hw⟩; obtain rfl := hw.symm; clear hw)
    | (go_at_call 11; with_reducible refine (Code_A _ _ HI.out HL.out).mono ?_; rintro ev w2 ⟨rfl, hb⟩; replace HI := Lib.hid (HI.out.kept hb (Nat.le_refl _)); replace HL := Lib.hid (HL.out.kept hb (Nat.le_refl _)); replace HB := Lib.hid (HB.out.trans (hb.mono HB.out.size)); clear hb)
    | (go_at_call 11; with_reducible refine (Code_nil _).mono ?_; rintro ev w2 ⟨rfl, hb⟩; replace HI := Lib.hid (HI.out.kept hb (Nat.le_refl _)); replace HL := Lib.hid (HL.out.kept hb (Nat.le_refl _)); replace HB := Lib.hid (HB.out.trans (hb.mono HB.out.size)); clear hb)
    | (go_at_call 12; with_reducible refine (At_A _ _ HI.out HL.out).mono ?_; rintro ev w2 ⟨rfl, hb⟩; replace HI := Lib.hid (HI.out.kept hb (Nat.le_refl _)); replace HL := Lib.hid (HL.out.kept hb (Nat.le_refl _)); replace HB := Lib.hid (HB.out.trans (hb.mono HB.out.size)); clear hb)
    | (go_at_call 13; with_reducible refine (Rule_A _ _ HI.out HL.out).mono ?_; rintro ev w2 ⟨rfl, hb⟩; replace HI := Lib.hid (HI.out.kept hb (Nat.le_refl _)); replace HL := Lib.hid (HL.out.kept hb (Nat.le_refl _)); replace HB := Lib.hid (HB.out.trans (hb.mono HB.out.size)); clear hb)
    | (go_at_call 74; with_reducible refine (Error_A _ _ HI.out).mono ?_; rintro ev w2 ⟨rfl, hb⟩; replace HI := Lib.hid (HI.out.kept hb (Nat.le_refl _)); replace HL := Lib.hid (HL.out.kept hb (Nat.le_refl _)); replace HB := Lib.hid (HB.out.trans (hb.mono HB.out.size)); clear hb)
    | (go_at_call 21; with_reducible refine (Name_8 _ HL.out).mono ?_; rintro ev w9 ⟨rfl, hw⟩; obtain rfl := hw.symm; clear hw))
  go_ret
  exact ⟨rfl, HB.out⟩
end Go.Proofs.YtjkmbfpjkppmnaaDoor
