/- The walk of the law LexerNames, given the check of the fixed examples. Written by wip/gen/lexnames.py. -/
import Derived.Test.YtipokoalcbaolaaDoorLexLawNext
import Derived.Test.YtipokoalcbaolaaDoorLexNamesMath
namespace Go.Proofs.YtipokoalcbaolaaDoor
open Go.RowKit
theorem nb_of {l : List Nat} {b : Bool} (h : (nameB l = true) ↔ b = true) : nameB l = b := Bool.eq_iff_iff.2 h
theorem name_is (s : ByteArray) (b : Bool) (h : nameB (bts s) = b) (hs : s.size ≤ 2000000) (w : World) : Calls Tryd.prog 14 #[.string s] w fun e w' => e = .returned (.bool b) ∧ w' = w := by subst h; exact pname_any s w hs
theorem rname_is (s : ByteArray) (b : Bool) (h : nameB (bts s) = b) (hs : s.size ≤ 2000000) (w : World) : Calls Tryd.prog 15 #[.string s] w fun e w' => e = .returned (.bool b) ∧ w' = w := by subst h; exact rname_any s w hs
theorem kind_no (s : ByteArray) (h : eqF 2 sgL (bts s) = none) (w : World) (hS : SignsAt w) : Calls Tryd.prog 16 #[.string s] w fun e w' => e = .returned (.int .i64 (-1)) ∧ w' = w := by
  have := kind_any s w hS
  rw [h] at this; exact this
theorem kind_yes (s : ByteArray) (i : Nat) (h : eqF 2 sgL (bts s) = some i) (w : World) (hS : SignsAt w) : Calls Tryd.prog 16 #[.string s] w fun e w' => e = .returned (.int .i64 (i : Int)) ∧ w' = w := by
  have := kind_any s w hS
  rw [h] at this; exact this
theorem no_name {l : List Nat} (h : ¬ (∃ t n, nextL l 0 = .ok (t, n) ∧ t.at_ = 0 ∧ n = l.length ∧ 0 < l.length ∧ t.kind = 1)) : nameB l = false := by
  cases hb : nameB l with
  | false => rfl
  | true =>
    obtain ⟨h1, h2⟩ := next_name hb
    exact absurd ⟨_, _, h1, rfl, rfl, h2, rfl⟩ h
theorem no_sign {l : List Nat} (h : ¬ (∃ t n, nextL l 0 = .ok (t, n) ∧ t.at_ = 0 ∧ n = l.length ∧ 0 < l.length ∧ 2 ≤ t.kind ∧ t.kind ≤ 11)) : eqF 2 sgL l = none := by
  cases hb : eqF 2 sgL l with
  | none => rfl
  | some i =>
    obtain ⟨h1, h2, h3, h4⟩ := next_sign hb
    exact absurd ⟨_, _, h1, rfl, rfl, h2, h3, h4⟩ h
theorem Tok7.newR (w : World) (a b c d e f g : Value) : Tok7 w.heap.size a b c d e f g (w.alloc (.cells #[a, b, c, d, e, f, g] 36)) := by
  unfold Tok7; refine ⟨⟨?_, ?_, ?_, ?_, ?_, ?_, ?_⟩, fun o => ?_⟩ <;> simp
set_option maxHeartbeats 4000000 in
set_option maxRecDepth 100000 in
theorem names_bad (s : ByteArray) (w : World) (k : Nat) (hs' : ¬ (500 : Int) < (s.size : Int))
    (HA : Hid (∀ w, LexLaid w → Calls Tryd.prog 8 #[] w fun e w' => e = .returned (.bool true) ∧ Below w.heap.size w w')) (HB : Hid (Below w.heap.size w w)) (HL : Hid (LexLaid w))
    (HR : Hid (∀ w, Calls Tryd.prog 13 #[.string s, .int .i64 0] w fun e w' => e = .returned (.tuple #[.agg #[.int .i64 0, .int .i64 0, .string ⟨#[]⟩, .int .u64 0, .int .u64 0, .int .u64 0, .int .u64 0], .int .i64 0, .int .i64 (k : Int)]) ∧ Below w.heap.size w w'))
    (HPN : Hid (∀ w, Calls Tryd.prog 14 #[.string s] w fun e w' => e = .returned (.bool false) ∧ w' = w))
    (HRN : Hid (∀ w, Calls Tryd.prog 15 #[.string s] w fun e w' => e = .returned (.bool false) ∧ w' = w))
    (HK : Hid (∀ w, SignsAt w → Calls Tryd.prog 16 #[.string s] w fun e w' => e = .returned (.int .i64 (-1)) ∧ w' = w)) :
    Calls Tryd.prog 5 #[.string s] w fun e w' => e = .returned (.bool true) ∧ Below w.heap.size w w' := by
  go_enter Tryd.func5, Tryd.ntmps5
  go_wp2_with (first
    | (go_at_call 8; (with_reducible refine (HA.out _ HL.out).mono ?_); rintro e w2 ⟨rfl, hb⟩; replace HL := Lib.hid (HL.out.kept hb (Nat.le_refl _)); replace HB := Lib.hid (HB.out.trans (hb.mono HB.out.size)); clear hb)
    | (go_at_call 13; (with_reducible refine (HR.out _).mono ?_); rintro e w4 ⟨rfl, hb⟩; replace HL := Lib.hid (HL.out.kept hb (Nat.le_refl _)); replace HB := Lib.hid (HB.out.trans (hb.mono HB.out.size)); clear hb; have HS := Lib.hid (fun c => HL.out.signs.kept (tk_any w4 c 36) (Nat.le_refl _)))
    | (go_at_call 14; (with_reducible refine (HPN.out _).mono ?_); rintro e w' ⟨rfl, hw⟩; obtain rfl := hw.symm; clear hw)
    | (go_at_call 15; (with_reducible refine (HRN.out _).mono ?_); rintro e w' ⟨rfl, hw⟩; obtain rfl := hw.symm; clear hw)
    | (go_at_call 16; (with_reducible refine (HK.out _ (HS.out _)).mono ?_); rintro e w' ⟨rfl, hw⟩; obtain rfl := hw.symm; clear hw))
  go_ret
  exact ⟨rfl, HB.out.alloc HB.out.size _⟩
set_option maxHeartbeats 4000000 in
set_option maxRecDepth 100000 in
theorem names_at (s : ByteArray) (w : World) (tk ta n t0 t1 t2 t3 : Int) (tt : ByteArray) (hs' : ¬ (500 : Int) < (s.size : Int))
    (HA : Hid (∀ w, LexLaid w → Calls Tryd.prog 8 #[] w fun e w' => e = .returned (.bool true) ∧ Below w.heap.size w w')) (HB : Hid (Below w.heap.size w w)) (HL : Hid (LexLaid w))
    (HR : Hid (∀ w, Calls Tryd.prog 13 #[.string s, .int .i64 0] w fun e w' => e = .returned (.tuple #[.agg #[.int .i64 tk, .int .i64 ta, .string tt, .int .u64 t0, .int .u64 t1, .int .u64 t2, .int .u64 t3], .int .i64 n, .int .i64 (-1)]) ∧ Below w.heap.size w w'))
    (HPN : Hid (∀ w, Calls Tryd.prog 14 #[.string s] w fun e w' => e = .returned (.bool false) ∧ w' = w))
    (HRN : Hid (∀ w, Calls Tryd.prog 15 #[.string s] w fun e w' => e = .returned (.bool false) ∧ w' = w))
    (HK : Hid (∀ w, SignsAt w → Calls Tryd.prog 16 #[.string s] w fun e w' => e = .returned (.int .i64 (-1)) ∧ w' = w)) (e1 : (ta == 0) = false) :
    Calls Tryd.prog 5 #[.string s] w fun e w' => e = .returned (.bool true) ∧ Below w.heap.size w w' := by
  go_enter Tryd.func5, Tryd.ntmps5
  go_wp2_with (first
    | (go_at_call 8; (with_reducible refine (HA.out _ HL.out).mono ?_); rintro e w2 ⟨rfl, hb⟩; replace HL := Lib.hid (HL.out.kept hb (Nat.le_refl _)); replace HB := Lib.hid (HB.out.trans (hb.mono HB.out.size)); clear hb)
    | (go_at_call 13; (with_reducible refine (HR.out _).mono ?_); rintro e w4 ⟨rfl, hb⟩; replace HL := Lib.hid (HL.out.kept hb (Nat.le_refl _)); replace HB := Lib.hid (HB.out.trans (hb.mono HB.out.size)); clear hb; have HS := Lib.hid (fun c => HL.out.signs.kept (tk_any w4 c 36) (Nat.le_refl _)))
    | (go_at_call 14; (with_reducible refine (HPN.out _).mono ?_); rintro e w' ⟨rfl, hw⟩; obtain rfl := hw.symm; clear hw)
    | (go_at_call 15; (with_reducible refine (HRN.out _).mono ?_); rintro e w' ⟨rfl, hw⟩; obtain rfl := hw.symm; clear hw)
    | (go_at_call 16; (with_reducible refine (HK.out _ (HS.out _)).mono ?_); rintro e w' ⟨rfl, hw⟩; obtain rfl := hw.symm; clear hw))
  go_ret
  exact ⟨rfl, HB.out.alloc HB.out.size _⟩
set_option maxHeartbeats 4000000 in
set_option maxRecDepth 100000 in
theorem names_end (s : ByteArray) (w : World) (tk ta n t0 t1 t2 t3 : Int) (tt : ByteArray) (hs' : ¬ (500 : Int) < (s.size : Int))
    (HA : Hid (∀ w, LexLaid w → Calls Tryd.prog 8 #[] w fun e w' => e = .returned (.bool true) ∧ Below w.heap.size w w')) (HB : Hid (Below w.heap.size w w)) (HL : Hid (LexLaid w))
    (HR : Hid (∀ w, Calls Tryd.prog 13 #[.string s, .int .i64 0] w fun e w' => e = .returned (.tuple #[.agg #[.int .i64 tk, .int .i64 ta, .string tt, .int .u64 t0, .int .u64 t1, .int .u64 t2, .int .u64 t3], .int .i64 n, .int .i64 (-1)]) ∧ Below w.heap.size w w'))
    (HPN : Hid (∀ w, Calls Tryd.prog 14 #[.string s] w fun e w' => e = .returned (.bool false) ∧ w' = w))
    (HRN : Hid (∀ w, Calls Tryd.prog 15 #[.string s] w fun e w' => e = .returned (.bool false) ∧ w' = w))
    (HK : Hid (∀ w, SignsAt w → Calls Tryd.prog 16 #[.string s] w fun e w' => e = .returned (.int .i64 (-1)) ∧ w' = w)) (e1 : (ta == 0) = true) (e2 : (n == (s.size : Int)) = false) :
    Calls Tryd.prog 5 #[.string s] w fun e w' => e = .returned (.bool true) ∧ Below w.heap.size w w' := by
  go_enter Tryd.func5, Tryd.ntmps5
  go_wp2_with (first
    | (go_at_call 8; (with_reducible refine (HA.out _ HL.out).mono ?_); rintro e w2 ⟨rfl, hb⟩; replace HL := Lib.hid (HL.out.kept hb (Nat.le_refl _)); replace HB := Lib.hid (HB.out.trans (hb.mono HB.out.size)); clear hb)
    | (go_at_call 13; (with_reducible refine (HR.out _).mono ?_); rintro e w4 ⟨rfl, hb⟩; replace HL := Lib.hid (HL.out.kept hb (Nat.le_refl _)); replace HB := Lib.hid (HB.out.trans (hb.mono HB.out.size)); clear hb; have HS := Lib.hid (fun c => HL.out.signs.kept (tk_any w4 c 36) (Nat.le_refl _)))
    | (go_at_call 14; (with_reducible refine (HPN.out _).mono ?_); rintro e w' ⟨rfl, hw⟩; obtain rfl := hw.symm; clear hw)
    | (go_at_call 15; (with_reducible refine (HRN.out _).mono ?_); rintro e w' ⟨rfl, hw⟩; obtain rfl := hw.symm; clear hw)
    | (go_at_call 16; (with_reducible refine (HK.out _ (HS.out _)).mono ?_); rintro e w' ⟨rfl, hw⟩; obtain rfl := hw.symm; clear hw))
  go_ret
  exact ⟨rfl, HB.out.alloc HB.out.size _⟩
set_option maxHeartbeats 4000000 in
set_option maxRecDepth 100000 in
theorem names_empty (s : ByteArray) (w : World) (tk ta n t0 t1 t2 t3 : Int) (tt : ByteArray) (hs' : ¬ (500 : Int) < (s.size : Int))
    (HA : Hid (∀ w, LexLaid w → Calls Tryd.prog 8 #[] w fun e w' => e = .returned (.bool true) ∧ Below w.heap.size w w')) (HB : Hid (Below w.heap.size w w)) (HL : Hid (LexLaid w))
    (HR : Hid (∀ w, Calls Tryd.prog 13 #[.string s, .int .i64 0] w fun e w' => e = .returned (.tuple #[.agg #[.int .i64 tk, .int .i64 ta, .string tt, .int .u64 t0, .int .u64 t1, .int .u64 t2, .int .u64 t3], .int .i64 n, .int .i64 (-1)]) ∧ Below w.heap.size w w'))
    (HPN : Hid (∀ w, Calls Tryd.prog 14 #[.string s] w fun e w' => e = .returned (.bool false) ∧ w' = w))
    (HRN : Hid (∀ w, Calls Tryd.prog 15 #[.string s] w fun e w' => e = .returned (.bool false) ∧ w' = w))
    (HK : Hid (∀ w, SignsAt w → Calls Tryd.prog 16 #[.string s] w fun e w' => e = .returned (.int .i64 (-1)) ∧ w' = w)) (e1 : (ta == 0) = true) (e2 : (n == (s.size : Int)) = true) (e3 : s.toList = []) :
    Calls Tryd.prog 5 #[.string s] w fun e w' => e = .returned (.bool true) ∧ Below w.heap.size w w' := by
  go_enter Tryd.func5, Tryd.ntmps5
  go_wp2_with (first
    | (go_at_call 8; (with_reducible refine (HA.out _ HL.out).mono ?_); rintro e w2 ⟨rfl, hb⟩; replace HL := Lib.hid (HL.out.kept hb (Nat.le_refl _)); replace HB := Lib.hid (HB.out.trans (hb.mono HB.out.size)); clear hb)
    | (go_at_call 13; (with_reducible refine (HR.out _).mono ?_); rintro e w4 ⟨rfl, hb⟩; replace HL := Lib.hid (HL.out.kept hb (Nat.le_refl _)); replace HB := Lib.hid (HB.out.trans (hb.mono HB.out.size)); clear hb; have HS := Lib.hid (fun c => HL.out.signs.kept (tk_any w4 c 36) (Nat.le_refl _)))
    | (go_at_call 14; (with_reducible refine (HPN.out _).mono ?_); rintro e w' ⟨rfl, hw⟩; obtain rfl := hw.symm; clear hw)
    | (go_at_call 15; (with_reducible refine (HRN.out _).mono ?_); rintro e w' ⟨rfl, hw⟩; obtain rfl := hw.symm; clear hw)
    | (go_at_call 16; (with_reducible refine (HK.out _ (HS.out _)).mono ?_); rintro e w' ⟨rfl, hw⟩; obtain rfl := hw.symm; clear hw))
  go_ret
  exact ⟨rfl, HB.out.alloc HB.out.size _⟩
set_option maxHeartbeats 4000000 in
set_option maxRecDepth 100000 in
theorem names_one (s : ByteArray) (w : World) (tk ta n t0 t1 t2 t3 : Int) (tt : ByteArray) (hs' : ¬ (500 : Int) < (s.size : Int))
    (HA : Hid (∀ w, LexLaid w → Calls Tryd.prog 8 #[] w fun e w' => e = .returned (.bool true) ∧ Below w.heap.size w w')) (HB : Hid (Below w.heap.size w w)) (HL : Hid (LexLaid w))
    (HR : Hid (∀ w, Calls Tryd.prog 13 #[.string s, .int .i64 0] w fun e w' => e = .returned (.tuple #[.agg #[.int .i64 tk, .int .i64 ta, .string tt, .int .u64 t0, .int .u64 t1, .int .u64 t2, .int .u64 t3], .int .i64 n, .int .i64 (-1)]) ∧ Below w.heap.size w w'))
    (HPN : Hid (∀ w, Calls Tryd.prog 14 #[.string s] w fun e w' => e = .returned (.bool true) ∧ w' = w))
    (HRN : Hid (∀ w, Calls Tryd.prog 15 #[.string s] w fun e w' => e = .returned (.bool true) ∧ w' = w))
    (HK : Hid (∀ w, SignsAt w → Calls Tryd.prog 16 #[.string s] w fun e w' => e = .returned (.int .i64 (-1)) ∧ w' = w)) (e1 : (ta == 0) = true) (e2 : (n == (s.size : Int)) = true) (e4 : s.toList.isEmpty = false) (k1 : ¬ 2 ≤ tk) (k2 : (tk == 1) = true) :
    Calls Tryd.prog 5 #[.string s] w fun e w' => e = .returned (.bool true) ∧ Below w.heap.size w w' := by
  go_enter Tryd.func5, Tryd.ntmps5
  go_wp2_with (first
    | (go_at_call 8; (with_reducible refine (HA.out _ HL.out).mono ?_); rintro e w2 ⟨rfl, hb⟩; replace HL := Lib.hid (HL.out.kept hb (Nat.le_refl _)); replace HB := Lib.hid (HB.out.trans (hb.mono HB.out.size)); clear hb)
    | (go_at_call 13; (with_reducible refine (HR.out _).mono ?_); rintro e w4 ⟨rfl, hb⟩; replace HL := Lib.hid (HL.out.kept hb (Nat.le_refl _)); replace HB := Lib.hid (HB.out.trans (hb.mono HB.out.size)); clear hb; have HS := Lib.hid (fun c => HL.out.signs.kept (tk_any w4 c 36) (Nat.le_refl _)))
    | (go_at_call 14; (with_reducible refine (HPN.out _).mono ?_); rintro e w' ⟨rfl, hw⟩; obtain rfl := hw.symm; clear hw)
    | (go_at_call 15; (with_reducible refine (HRN.out _).mono ?_); rintro e w' ⟨rfl, hw⟩; obtain rfl := hw.symm; clear hw)
    | (go_at_call 16; (with_reducible refine (HK.out _ (HS.out _)).mono ?_); rintro e w' ⟨rfl, hw⟩; obtain rfl := hw.symm; clear hw))
  go_ret
  exact ⟨rfl, HB.out.alloc HB.out.size _⟩
set_option maxHeartbeats 4000000 in
set_option maxRecDepth 100000 in
theorem names_low (s : ByteArray) (w : World) (tk ta n t0 t1 t2 t3 : Int) (tt : ByteArray) (hs' : ¬ (500 : Int) < (s.size : Int))
    (HA : Hid (∀ w, LexLaid w → Calls Tryd.prog 8 #[] w fun e w' => e = .returned (.bool true) ∧ Below w.heap.size w w')) (HB : Hid (Below w.heap.size w w)) (HL : Hid (LexLaid w))
    (HR : Hid (∀ w, Calls Tryd.prog 13 #[.string s, .int .i64 0] w fun e w' => e = .returned (.tuple #[.agg #[.int .i64 tk, .int .i64 ta, .string tt, .int .u64 t0, .int .u64 t1, .int .u64 t2, .int .u64 t3], .int .i64 n, .int .i64 (-1)]) ∧ Below w.heap.size w w'))
    (HPN : Hid (∀ w, Calls Tryd.prog 14 #[.string s] w fun e w' => e = .returned (.bool false) ∧ w' = w))
    (HRN : Hid (∀ w, Calls Tryd.prog 15 #[.string s] w fun e w' => e = .returned (.bool false) ∧ w' = w))
    (HK : Hid (∀ w, SignsAt w → Calls Tryd.prog 16 #[.string s] w fun e w' => e = .returned (.int .i64 (-1)) ∧ w' = w)) (e1 : (ta == 0) = true) (e2 : (n == (s.size : Int)) = true) (e4 : s.toList.isEmpty = false) (k1 : ¬ 2 ≤ tk) (k2 : (tk == 1) = false) :
    Calls Tryd.prog 5 #[.string s] w fun e w' => e = .returned (.bool true) ∧ Below w.heap.size w w' := by
  go_enter Tryd.func5, Tryd.ntmps5
  go_wp2_with (first
    | (go_at_call 8; (with_reducible refine (HA.out _ HL.out).mono ?_); rintro e w2 ⟨rfl, hb⟩; replace HL := Lib.hid (HL.out.kept hb (Nat.le_refl _)); replace HB := Lib.hid (HB.out.trans (hb.mono HB.out.size)); clear hb)
    | (go_at_call 13; (with_reducible refine (HR.out _).mono ?_); rintro e w4 ⟨rfl, hb⟩; replace HL := Lib.hid (HL.out.kept hb (Nat.le_refl _)); replace HB := Lib.hid (HB.out.trans (hb.mono HB.out.size)); clear hb; have HS := Lib.hid (fun c => HL.out.signs.kept (tk_any w4 c 36) (Nat.le_refl _)))
    | (go_at_call 14; (with_reducible refine (HPN.out _).mono ?_); rintro e w' ⟨rfl, hw⟩; obtain rfl := hw.symm; clear hw)
    | (go_at_call 15; (with_reducible refine (HRN.out _).mono ?_); rintro e w' ⟨rfl, hw⟩; obtain rfl := hw.symm; clear hw)
    | (go_at_call 16; (with_reducible refine (HK.out _ (HS.out _)).mono ?_); rintro e w' ⟨rfl, hw⟩; obtain rfl := hw.symm; clear hw))
  go_ret
  exact ⟨rfl, HB.out.alloc HB.out.size _⟩
set_option maxHeartbeats 4000000 in
set_option maxRecDepth 100000 in
theorem names_sign (s : ByteArray) (w : World) (tk ta n t0 t1 t2 t3 : Int) (tt : ByteArray) (hs' : ¬ (500 : Int) < (s.size : Int))
    (HA : Hid (∀ w, LexLaid w → Calls Tryd.prog 8 #[] w fun e w' => e = .returned (.bool true) ∧ Below w.heap.size w w')) (HB : Hid (Below w.heap.size w w)) (HL : Hid (LexLaid w))
    (HR : Hid (∀ w, Calls Tryd.prog 13 #[.string s, .int .i64 0] w fun e w' => e = .returned (.tuple #[.agg #[.int .i64 tk, .int .i64 ta, .string tt, .int .u64 t0, .int .u64 t1, .int .u64 t2, .int .u64 t3], .int .i64 n, .int .i64 (-1)]) ∧ Below w.heap.size w w'))
    (HPN : Hid (∀ w, Calls Tryd.prog 14 #[.string s] w fun e w' => e = .returned (.bool false) ∧ w' = w))
    (HRN : Hid (∀ w, Calls Tryd.prog 15 #[.string s] w fun e w' => e = .returned (.bool false) ∧ w' = w))
    (HK : Hid (∀ w, SignsAt w → Calls Tryd.prog 16 #[.string s] w fun e w' => e = .returned (.int .i64 tk) ∧ w' = w)) (e1 : (ta == 0) = true) (e2 : (n == (s.size : Int)) = true) (e4 : s.toList.isEmpty = false) (k1 : 2 ≤ tk) (k3 : tk ≤ 11) (k2 : (tk == 1) = false) :
    Calls Tryd.prog 5 #[.string s] w fun e w' => e = .returned (.bool true) ∧ Below w.heap.size w w' := by
  go_enter Tryd.func5, Tryd.ntmps5
  go_wp2_with (first
    | (go_at_call 8; (with_reducible refine (HA.out _ HL.out).mono ?_); rintro e w2 ⟨rfl, hb⟩; replace HL := Lib.hid (HL.out.kept hb (Nat.le_refl _)); replace HB := Lib.hid (HB.out.trans (hb.mono HB.out.size)); clear hb)
    | (go_at_call 13; (with_reducible refine (HR.out _).mono ?_); rintro e w4 ⟨rfl, hb⟩; replace HL := Lib.hid (HL.out.kept hb (Nat.le_refl _)); replace HB := Lib.hid (HB.out.trans (hb.mono HB.out.size)); clear hb; have HS := Lib.hid (fun c => HL.out.signs.kept (tk_any w4 c 36) (Nat.le_refl _)))
    | (go_at_call 14; (with_reducible refine (HPN.out _).mono ?_); rintro e w' ⟨rfl, hw⟩; obtain rfl := hw.symm; clear hw)
    | (go_at_call 15; (with_reducible refine (HRN.out _).mono ?_); rintro e w' ⟨rfl, hw⟩; obtain rfl := hw.symm; clear hw)
    | (go_at_call 16; (with_reducible refine (HK.out _ (HS.out _)).mono ?_); rintro e w' ⟨rfl, hw⟩; obtain rfl := hw.symm; clear hw))
  go_ret
  exact ⟨rfl, HB.out.alloc HB.out.size _⟩
set_option maxHeartbeats 4000000 in
set_option maxRecDepth 100000 in
theorem names_high (s : ByteArray) (w : World) (tk ta n t0 t1 t2 t3 : Int) (tt : ByteArray) (hs' : ¬ (500 : Int) < (s.size : Int))
    (HA : Hid (∀ w, LexLaid w → Calls Tryd.prog 8 #[] w fun e w' => e = .returned (.bool true) ∧ Below w.heap.size w w')) (HB : Hid (Below w.heap.size w w)) (HL : Hid (LexLaid w))
    (HR : Hid (∀ w, Calls Tryd.prog 13 #[.string s, .int .i64 0] w fun e w' => e = .returned (.tuple #[.agg #[.int .i64 tk, .int .i64 ta, .string tt, .int .u64 t0, .int .u64 t1, .int .u64 t2, .int .u64 t3], .int .i64 n, .int .i64 (-1)]) ∧ Below w.heap.size w w'))
    (HPN : Hid (∀ w, Calls Tryd.prog 14 #[.string s] w fun e w' => e = .returned (.bool false) ∧ w' = w))
    (HRN : Hid (∀ w, Calls Tryd.prog 15 #[.string s] w fun e w' => e = .returned (.bool false) ∧ w' = w))
    (HK : Hid (∀ w, SignsAt w → Calls Tryd.prog 16 #[.string s] w fun e w' => e = .returned (.int .i64 (-1)) ∧ w' = w)) (e1 : (ta == 0) = true) (e2 : (n == (s.size : Int)) = true) (e4 : s.toList.isEmpty = false) (k1 : 2 ≤ tk) (k3 : ¬ tk ≤ 11) (k2 : (tk == 1) = false) :
    Calls Tryd.prog 5 #[.string s] w fun e w' => e = .returned (.bool true) ∧ Below w.heap.size w w' := by
  go_enter Tryd.func5, Tryd.ntmps5
  go_wp2_with (first
    | (go_at_call 8; (with_reducible refine (HA.out _ HL.out).mono ?_); rintro e w2 ⟨rfl, hb⟩; replace HL := Lib.hid (HL.out.kept hb (Nat.le_refl _)); replace HB := Lib.hid (HB.out.trans (hb.mono HB.out.size)); clear hb)
    | (go_at_call 13; (with_reducible refine (HR.out _).mono ?_); rintro e w4 ⟨rfl, hb⟩; replace HL := Lib.hid (HL.out.kept hb (Nat.le_refl _)); replace HB := Lib.hid (HB.out.trans (hb.mono HB.out.size)); clear hb; have HS := Lib.hid (fun c => HL.out.signs.kept (tk_any w4 c 36) (Nat.le_refl _)))
    | (go_at_call 14; (with_reducible refine (HPN.out _).mono ?_); rintro e w' ⟨rfl, hw⟩; obtain rfl := hw.symm; clear hw)
    | (go_at_call 15; (with_reducible refine (HRN.out _).mono ?_); rintro e w' ⟨rfl, hw⟩; obtain rfl := hw.symm; clear hw)
    | (go_at_call 16; (with_reducible refine (HK.out _ (HS.out _)).mono ?_); rintro e w' ⟨rfl, hw⟩; obtain rfl := hw.symm; clear hw))
  go_ret
  exact ⟨rfl, HB.out.alloc HB.out.size _⟩
set_option maxHeartbeats 4000000 in
theorem lexNames_any (hA : LexAwake) (s : ByteArray) (w : World) (hz : s.size ≤ maxLen) (hl : LexLaid w) :
    Calls Tryd.prog 5 #[.string s] w fun e w' => e = .returned (.bool true) ∧ Below w.heap.size w w' := by
  unfold LexAwake at hA
  have HA := Lib.hid hA
  have HB := Lib.hid (Below.refl w.heap.size w)
  have HL := Lib.hid hl
  clear hA hl
  unfold maxLen at hz
  by_cases hs : 500 < s.size
  · have hs' : (500 : Int) < (s.size : Int) := by omega
    go_enter Tryd.func5, Tryd.ntmps5
    go_wp2_with (go_at_call 8; (with_reducible refine (HA.out _ HL.out).mono ?_); rintro e w2 ⟨rfl, hb⟩; replace HL := Lib.hid (HL.out.kept hb (Nat.le_refl _)); replace HB := Lib.hid (HB.out.trans (hb.mono HB.out.size)); clear hb)
    go_ret
    exact ⟨rfl, HB.out⟩
  · have hs' : ¬ (500 : Int) < (s.size : Int) := by omega
    have hz1 : s.size ≤ 1050000 := by omega
    have hz2 : s.size ≤ 2000000 := by omega
    have hlen := bts_length s
    have sg : ∀ (t : Tok) (n : Nat), nextL (bts s) 0 = .ok (t, n) → ¬ (t.at_ = 0 ∧ n = s.size ∧ 0 < s.size ∧ 2 ≤ t.kind ∧ t.kind ≤ 11) → eqF 2 sgL (bts s) = none := fun t n hn h => no_sign (by
      rintro ⟨t', n', h1, h2, h3, h4, h5, h6⟩
      rw [hn] at h1
      obtain ⟨rfl, rfl⟩ := Prod.mk.inj (Except.ok.inj h1)
      rw [hlen] at h3 h4
      exact h ⟨h2, h3, h4, h5, h6⟩)
    have nm : ∀ (t : Tok) (n : Nat), nextL (bts s) 0 = .ok (t, n) → ¬ (t.at_ = 0 ∧ n = s.size ∧ 0 < s.size ∧ t.kind = 1) → nameB (bts s) = false := fun t n hn h => no_name (by
      rintro ⟨t', n', h1, h2, h3, h4, h5⟩
      rw [hn] at h1
      obtain ⟨rfl, rfl⟩ := Prod.mk.inj (Except.ok.inj h1)
      rw [hlen] at h3 h4
      exact h ⟨h2, h3, h4, h5⟩)
    cases hn : nextL (bts s) 0 with
    | error k =>
      have h1 : nameB (bts s) = false := no_name (by rintro ⟨t, n, h, -⟩; rw [hn] at h; cases h)
      have h2 : eqF 2 sgL (bts s) = none := no_sign (by rintro ⟨t, n, h, -⟩; rw [hn] at h; cases h)
      exact names_bad s w k hs' HA HB HL (Lib.hid fun w => rnext_bad s 0 k w hz1 (Nat.zero_le _) hn) (Lib.hid (name_is s false h1 hz2)) (Lib.hid (rname_is s false h1 hz2)) (Lib.hid (kind_no s h2))
    | ok x =>
      obtain ⟨t, n⟩ := x
      have hR := Lib.hid fun w => rnext_ok s 0 t n w hz1 (Nat.zero_le _) hn
      by_cases ha : t.at_ = 0
      · have e1 : ((t.at_ : Int) == 0) = true := by rw [beq_iff_eq]; omega
        by_cases hq : n = s.size
        · have e2 : ((n : Int) == (s.size : Int)) = true := by rw [beq_iff_eq]; omega
          by_cases h0 : 0 < s.size
          · have e4 := isEmpty_no h0
            have hw := next_whole hn ha (by rw [hlen]; exact hq) (by rw [hlen]; exact h0)
            by_cases k1 : 2 ≤ t.kind
            · have h1 := nm t n hn (fun h => by omega)
              have k2 := ibeq_no (c := (t.kind : Int)) (k := 1) (by omega)
              by_cases k3 : t.kind ≤ 11
              · exact names_sign s w _ _ _ _ _ _ _ _ hs' HA HB HL hR (Lib.hid (name_is s false h1 hz2)) (Lib.hid (rname_is s false h1 hz2)) (Lib.hid (kind_yes s _ (hw.2 k1 k3))) e1 e2 e4 (by omega) (by omega) k2
              · have h2 := sg t n hn (fun h => by omega)
                exact names_high s w _ _ _ _ _ _ _ _ hs' HA HB HL hR (Lib.hid (name_is s false h1 hz2)) (Lib.hid (rname_is s false h1 hz2)) (Lib.hid (kind_no s h2)) e1 e2 e4 (by omega) (by omega) k2
            · have h2 := sg t n hn (fun h => by omega)
              by_cases k4 : t.kind = 1
              · have h1 := hw.1 k4
                exact names_one s w _ _ _ _ _ _ _ _ hs' HA HB HL hR (Lib.hid (name_is s true h1 hz2)) (Lib.hid (rname_is s true h1 hz2)) (Lib.hid (kind_no s h2)) e1 e2 e4 (by omega) (by rw [beq_iff_eq]; omega)
              · have h1 := nm t n hn (fun h => k4 h.2.2.2)
                exact names_low s w _ _ _ _ _ _ _ _ hs' HA HB HL hR (Lib.hid (name_is s false h1 hz2)) (Lib.hid (rname_is s false h1 hz2)) (Lib.hid (kind_no s h2)) e1 e2 e4 (by omega) (ibeq_no (by omega))
          · have h1 := nm t n hn (fun h => h0 h.2.2.1)
            have h2 := sg t n hn (fun h => h0 h.2.2.1)
            have e4 := isEmpty_yes h0
            exact names_empty s w _ _ _ _ _ _ _ _ hs' HA HB HL hR (Lib.hid (name_is s false h1 hz2)) (Lib.hid (rname_is s false h1 hz2)) (Lib.hid (kind_no s h2)) e1 e2 (List.isEmpty_iff.1 e4)
        · have h1 := nm t n hn (fun h => hq h.2.1)
          have h2 := sg t n hn (fun h => hq h.2.1)
          exact names_end s w _ _ _ _ _ _ _ _ hs' HA HB HL hR (Lib.hid (name_is s false h1 hz2)) (Lib.hid (rname_is s false h1 hz2)) (Lib.hid (kind_no s h2)) e1 (ibeq_no (by omega))
      · have h1 := nm t n hn (fun h => ha h.1)
        have h2 := sg t n hn (fun h => ha h.1)
        exact names_at s w _ _ _ _ _ _ _ _ hs' HA HB HL hR (Lib.hid (name_is s false h1 hz2)) (Lib.hid (rname_is s false h1 hz2)) (Lib.hid (kind_no s h2)) (ibeq_no (by omega))
end Go.Proofs.YtipokoalcbaolaaDoor
