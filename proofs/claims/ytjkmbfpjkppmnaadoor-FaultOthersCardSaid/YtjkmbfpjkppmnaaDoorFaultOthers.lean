/- The walk of the law FaultOthers: it returns true at every two strings. -/
import Derived.Test.YtjkmbfpjkppmnaaDoorAwake2
namespace Go.Proofs.YtjkmbfpjkppmnaaDoor
open Go.RowKit
/-- The law's error: a text of package errors, within a rule. -/
abbrev exO (b a : Nat) (r t : ByteArray) : Err := .within b r (.text a t)
theorem Code_O (b a : Nat) (r t : ByteArray) (w : World) (he : (exO b a r t).In w) (hl : Laid w) :
    Calls Tryd.prog 11 #[.iface 60 (.pointer (some ⟨b, 0, none⟩))] w fun ev w' => ev = .returned (.tuple #[.int .i64 0, .bool false]) ∧ Below w.heap.size w w' := Code_none (exO b a r t) w rfl he hl.1
theorem At_O (b a : Nat) (r t : ByteArray) (w : World) (he : (exO b a r t).In w) (hl : Laid w) :
    Calls Tryd.prog 12 #[.iface 60 (.pointer (some ⟨b, 0, none⟩))] w fun ev w' => ev = .returned (.tuple #[.int .i64 0, .bool false]) ∧ Below w.heap.size w w' := At_none (exO b a r t) w rfl he hl.1
theorem Rule_O (b a : Nat) (r t : ByteArray) (w : World) (he : (exO b a r t).In w) (hl : Laid w) :
    Calls Tryd.prog 13 #[.iface 60 (.pointer (some ⟨b, 0, none⟩))] w fun ev w' => ev = .returned (.tuple #[.string r, .bool true]) ∧ Below w.heap.size w w' := Rule_within b r (.text a t) w he hl.1
theorem Error_O (b a : Nat) (r t : ByteArray) (w : World) (he : (exO b a r t).In w) (hr : r.size ≤ 100) (ht : t.size ≤ 100) :
    Calls Tryd.prog 74 #[.pointer (some ⟨b, 0, none⟩)] w fun ev w' => ev = .returned (.string (⟨#[114, 117, 108, 101, 32]⟩ ++ r ++ ⟨#[58, 32]⟩ ++ t)) ∧ Below w.heap.size w w' :=
  error_any (exO b a r t) _ w w ⟨t, rfl, rfl⟩ (by
    have e1 : (⟨#[114, 117, 108, 101, 32]⟩ : ByteArray).size = 5 := rfl
    have e2 : (⟨#[58, 32]⟩ : ByteArray).size = 2 := rfl
    simp only [ByteArray.size_append]; omega) he (Below.refl _ _)
theorem Within_O (a : Nat) (r t : ByteArray) (w : World) (he : (Err.text a t).In w) :
    Calls Tryd.prog 15 #[.string r, .iface 83 (.pointer (some ⟨a, 0, none⟩))] w fun ev w' => ev = .returned (.iface 60 (.pointer (some ⟨w.heap.size, 0, none⟩))) ∧ (exO w.heap.size a r t).In w' ∧ Below w.heap.size w w' :=
  (Within_any r (.text a t) w).mono fun ev w' ⟨h1, h2⟩ => ⟨h1, by
    subst h2
    exact ⟨by simp, by simp, he.kept ((Below.refl _ _).alloc (Nat.le_refl _) _) (Nat.le_refl _)⟩, by subst h2; exact (Below.refl _ _).alloc (Nat.le_refl _) _⟩
theorem New_O (t : ByteArray) (w : World) :
    Calls Tryd.prog 24 #[.string t] w fun ev w' => ev = .returned (.iface 83 (.pointer (some ⟨w.heap.size, 0, none⟩))) ∧ (Err.text w.heap.size t).In w' ∧ Below w.heap.size w w' :=
  (errNew_any t w).mono fun ev w' ⟨h1, h2⟩ => ⟨h1, by subst h2; exact (by simp : (w.alloc (.cells #[.string t] 85)).cell? ⟨w.heap.size, 0, none⟩ = some (.string t)), by subst h2; exact (Below.refl _ _).alloc (Nat.le_refl _) _⟩
theorem eql_same (s : ByteArray) (w : World) : (Op.stringOp .eql s s).run Tryd.prog w = .ok (.bool true) w := by
  simp [Op.stringOp]
set_option maxHeartbeats 4000000 in
theorem faultOthers_long (t r : ByteArray) (w : World) (hl : Laid w) (h : (100 : Int) < t.size ∨ ¬ (100 : Int) < t.size ∧ (100 : Int) < r.size) : Calls Tryd.prog 7 #[.string t, .string r] w fun ev w' => ev = .returned (.bool true) ∧ Below w.heap.size w w' := by
  have hb0 : Below w.heap.size w w := Below.refl _ _
  have HB := Lib.hid hb0
  have HL := Lib.hid hl
  clear hl hb0
  rcases h with h1 | ⟨h1, h2⟩
  all_goals
    go_enter Tryd.func7, Tryd.ntmps7
    go_wp2_with (first
      | (go_at_call 8; with_reducible refine (awake_any _ HL.out).mono ?_; rintro ev w2 ⟨rfl, hb⟩; replace HL := Lib.hid (HL.out.kept hb (Nat.le_refl _)); replace HB := Lib.hid (HB.out.trans (hb.mono HB.out.size)); clear hb))
    go_ret
    exact ⟨rfl, HB.out⟩
set_option maxRecDepth 100000 in
set_option maxHeartbeats 4000000 in
theorem faultOthers_short (t r : ByteArray) (w : World) (hl : Laid w) (ht : t.size ≤ 100) (hr : r.size ≤ 100) : Calls Tryd.prog 7 #[.string t, .string r] w fun ev w' => ev = .returned (.bool true) ∧ Below w.heap.size w w' := by
  have hb0 : Below w.heap.size w w := Below.refl _ _
  have k1 : ∀ w, (Op.stringOp .add ⟨#[114, 117, 108, 101, 32]⟩ r).run Tryd.prog w = .ok (.string (⟨#[114, 117, 108, 101, 32]⟩ ++ r)) w := fun w => run_string_add_sum w _ _ (by have e1 : (⟨#[114, 117, 108, 101, 32]⟩ : ByteArray).size = 5 := rfl; omega)
  have k2 : ∀ w, (Op.stringOp .add (⟨#[114, 117, 108, 101, 32]⟩ ++ r) ⟨#[58, 32]⟩).run Tryd.prog w = .ok (.string (⟨#[114, 117, 108, 101, 32]⟩ ++ r ++ ⟨#[58, 32]⟩)) w := fun w => run_string_add_sum w _ _ (by have e1 : (⟨#[114, 117, 108, 101, 32]⟩ : ByteArray).size = 5 := rfl; have e2 : (⟨#[58, 32]⟩ : ByteArray).size = 2 := rfl; rw [ByteArray.size_append]; omega)
  have k3 : ∀ w, (Op.stringOp .add (⟨#[114, 117, 108, 101, 32]⟩ ++ r ++ ⟨#[58, 32]⟩) t).run Tryd.prog w = .ok (.string (⟨#[114, 117, 108, 101, 32]⟩ ++ r ++ ⟨#[58, 32]⟩ ++ t)) w := fun w => run_string_add_sum w _ _ (by have e1 : (⟨#[114, 117, 108, 101, 32]⟩ : ByteArray).size = 5 := rfl; have e2 : (⟨#[58, 32]⟩ : ByteArray).size = 2 := rfl; rw [ByteArray.size_append, ByteArray.size_append]; omega)
  have q1 := eql_same r
  have q2 := eql_same (⟨#[114, 117, 108, 101, 32]⟩ ++ r ++ ⟨#[58, 32]⟩ ++ t)
  have me := m_error_W
  have ne := n_error_W
  have t1 : ¬ (100 : Int) < t.size := by omega
  have r1 : ¬ (100 : Int) < r.size := by omega
  have HT := Lib.hid ht
  have HR := Lib.hid hr
  have HB := Lib.hid hb0
  have HL := Lib.hid hl
  clear hl hb0 ht hr
  go_enter Tryd.func7, Tryd.ntmps7
  go_wp2_with (first
    | (go_at_call 8; with_reducible refine (awake_any _ HL.out).mono ?_; rintro ev w2 ⟨rfl, hb⟩; replace HL := Lib.hid (HL.out.kept hb (Nat.le_refl _)); replace HB := Lib.hid (HB.out.trans (hb.mono HB.out.size)); clear hb)
    | (go_at_call 24; with_reducible refine (New_O _ _).mono ?_; rintro ev w2 ⟨rfl, hI, hb⟩; have HI := Lib.hid hI; replace HL := Lib.hid (HL.out.kept hb (Nat.le_refl _)); replace HB := Lib.hid (HB.out.trans (hb.mono HB.out.size)); clear hI hb)
    | (go_at_call 15; with_reducible refine (Within_O _ _ _ _ HI.out).mono ?_; rintro ev w3 ⟨rfl, hI, hb⟩; replace HI := Lib.hid hI; replace HL := Lib.hid (HL.out.kept hb (Nat.le_refl _)); replace HB := Lib.hid (HB.out.trans (hb.mono HB.out.size)); clear hI hb)
    | (go_at_call 11; with_reducible refine (Code_O _ _ _ _ _ HI.out HL.out).mono ?_; rintro ev w2 ⟨rfl, hb⟩; replace HI := Lib.hid (HI.out.kept hb (Nat.le_refl _)); replace HL := Lib.hid (HL.out.kept hb (Nat.le_refl _)); replace HB := Lib.hid (HB.out.trans (hb.mono HB.out.size)); clear hb)
    | (go_at_call 12; with_reducible refine (At_O _ _ _ _ _ HI.out HL.out).mono ?_; rintro ev w2 ⟨rfl, hb⟩; replace HI := Lib.hid (HI.out.kept hb (Nat.le_refl _)); replace HL := Lib.hid (HL.out.kept hb (Nat.le_refl _)); replace HB := Lib.hid (HB.out.trans (hb.mono HB.out.size)); clear hb)
    | (go_at_call 13; with_reducible refine (Rule_O _ _ _ _ _ HI.out HL.out).mono ?_; rintro ev w2 ⟨rfl, hb⟩; replace HI := Lib.hid (HI.out.kept hb (Nat.le_refl _)); replace HL := Lib.hid (HL.out.kept hb (Nat.le_refl _)); replace HB := Lib.hid (HB.out.trans (hb.mono HB.out.size)); clear hb)
    | (go_at_call 74; with_reducible refine (Error_O _ _ _ _ _ HI.out HR.out HT.out).mono ?_; rintro ev w2 ⟨rfl, hb⟩; replace HL := Lib.hid (HL.out.kept hb (Nat.le_refl _)); replace HB := Lib.hid (HB.out.trans (hb.mono HB.out.size)); clear hb))
  go_ret
  exact ⟨rfl, HB.out⟩
theorem faultOthers_any (t r : ByteArray) (w : World) (hl : Laid w) : Calls Tryd.prog 7 #[.string t, .string r] w fun ev w' => ev = .returned (.bool true) ∧ Below w.heap.size w w' := by
  by_cases h1 : 100 < t.size
  · exact faultOthers_long t r w hl (Or.inl (by omega))
  · by_cases h2 : 100 < r.size
    · exact faultOthers_long t r w hl (Or.inr ⟨by omega, by omega⟩)
    · exact faultOthers_short t r w hl (by omega) (by omega)
end Go.Proofs.YtjkmbfpjkppmnaaDoor
