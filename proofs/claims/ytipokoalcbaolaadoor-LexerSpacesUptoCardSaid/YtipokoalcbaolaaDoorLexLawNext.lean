/- The walk of the law LexerNext, given the check of the fixed examples. -/
import Derived.Test.YtipokoalcbaolaaDoorLexPToks
import Derived.Test.YtipokoalcbaolaaDoorLexWrong
import Derived.Test.YtipokoalcbaolaaDoorTokEq
namespace Go.Proofs.YtipokoalcbaolaaDoor
open Go.RowKit
/-- The check of the fixed examples holds. -/
def LexAwake : Prop := ∀ w, LexLaid w → Calls Tryd.prog 8 #[] w fun e w' => e = .returned (.bool true) ∧ Below w.heap.size w w'
theorem Tok7.new (w : World) (a b c d e f g : Value) : Tok7 w.heap.size a b c d e f g (w.alloc (.cells #[a, b, c, d, e, f, g] 37)) := by
  unfold Tok7; refine ⟨⟨?_, ?_, ?_, ?_, ?_, ?_, ?_⟩, fun o => ?_⟩ <;> simp
theorem Tok7.below {B n : Nat} {a b c d e f g : Value} {w w' : World} (h : Tok7 B a b c d e f g w) (hb : Below n w w') (hB : B < n) : Tok7 B a b c d e f g w' := by
  obtain ⟨⟨h0, h1, h2, h3, h4, h5, h6⟩, hf⟩ := h
  have hc := bcell hb
  exact ⟨⟨by rw [hc.1 _ _ hB]; exact h0, by rw [hc.1 _ _ hB]; exact h1, by rw [hc.1 _ _ hB]; exact h2, by rw [hc.1 _ _ hB]; exact h3, by rw [hc.1 _ _ hB]; exact h4, by rw [hc.1 _ _ hB]; exact h5, by rw [hc.1 _ _ hB]; exact h6⟩, fun o => by rw [hc.2 _ _ hB]; exact hf o⟩
theorem tk_any (w : World) (c : Array Value) (t : TypeId) : Below w.heap.size w (w.alloc (.cells c t)) := (Below.refl _ w).alloc (Nat.le_refl _) _
theorem LexLaid.signs {w : World} (h : LexLaid w) : SignsAt w := h.2
theorem LexLaid.handle {w : World} (h : LexLaid w) : w.cell? ⟨1, 0, none⟩ = some (rt 25) := h.1
set_option maxHeartbeats 4000000 in
set_option maxRecDepth 100000 in
theorem lexNext_any (hA : LexAwake) (s : ByteArray) (a : Nat) (w : World) (hz : s.size ≤ maxLen) (ha : a ≤ 65535) (hl : LexLaid w) :
    Calls Tryd.prog 4 #[.string s, .int .u16 (a : Int)] w fun e w' => e = .returned (.bool true) ∧ Below w.heap.size w w' := by
  unfold LexAwake at hA
  have HA := Lib.hid hA
  have HB := Lib.hid (Below.refl w.heap.size w)
  have HL := Lib.hid hl
  clear hA hl
  unfold maxLen at hz
  by_cases hs : 1000 < s.size
  · have hs' : (1000 : Int) < (s.size : Int) := by omega
    go_enter Tryd.func4, Tryd.ntmps4
    go_wp2_with (go_at_call 8; (with_reducible refine (HA.out _ HL.out).mono ?_); rintro e w2 ⟨rfl, hb⟩; replace HL := Lib.hid (HL.out.kept hb (Nat.le_refl _)); replace HB := Lib.hid (HB.out.trans (hb.mono HB.out.size)); clear hb)
    go_ret
    exact ⟨rfl, HB.out⟩
  · have hs' : ¬ (1000 : Int) < (s.size : Int) := by omega
    obtain ⟨i, hi⟩ : ∃ i : Nat, (a : Int) % ((s.size : Int) + 1) = (i : Int) := ⟨((a : Int) % ((s.size : Int) + 1)).toNat, by have := Int.emod_nonneg (a : Int) (b := (s.size : Int) + 1) (by omega); omega⟩
    have hi2 : i ≤ s.size := by have := Int.emod_lt_of_pos (a : Int) (b := (s.size : Int) + 1) (by omega); omega
    have hz1 : s.size ≤ 1050000 := by omega
    cases hn : nextL (bts s) i with
    | error k =>
      have q1 := eql_lTok 0 0 0 0 0 0 0 0 0 0 0 0 ⟨#[]⟩ ⟨#[]⟩
      have q2 := gt_lTok
      have HN := Lib.hid hn
      have hk0 : (0 : Int) ≤ (k : Int) := by omega
      clear hn
      go_enter Tryd.func4, Tryd.ntmps4
      go_wp2_with (first
        | (go_at_call 8; (with_reducible refine (HA.out _ HL.out).mono ?_); rintro e w2 ⟨rfl, hb⟩; replace HL := Lib.hid (HL.out.kept hb (Nat.le_refl _)); replace HB := Lib.hid (HB.out.trans (hb.mono HB.out.size)); clear hb)
        | (go_at_call 12; (with_reducible refine (pnext_bad s i k _ hz1 hi2 HL.out.signs HN.out).mono ?_); rintro e w3 ⟨rfl, hb⟩; replace HL := Lib.hid (HL.out.kept hb (Nat.le_refl _)); replace HB := Lib.hid (HB.out.trans (hb.mono HB.out.size)); clear hb)
        | (go_at_call 13; (with_reducible refine (rnext_bad s i k _ hz1 hi2 HN.out).mono ?_); rintro e w4 ⟨rfl, hb⟩; have hb3 := (tk_one w3).trans (hb.mono (by rw [alloc_size]; exact Nat.le_succ _)); replace HL := Lib.hid (HL.out.kept hb3 (Nat.le_refl _)); replace HB := Lib.hid (HB.out.trans (hb3.mono HB.out.size)); obtain ⟨⟨d0, d1, d2, d3, d4, d5, d6⟩, hfr⟩ := (Zero7.new2 w3).below hb (by rw [alloc_size]; exact Nat.lt_succ_self _); have hs34 : w3.heap.size < w4.heap.size := Nat.lt_of_lt_of_le (by rw [alloc_size]; exact Nat.lt_succ_self _) hb.size; have HH := Lib.hid (fun o => (HL.out.kept ((Below.refl w4.heap.size w4).alloc (Nat.le_refl _) o) (Nat.le_refl _)).handle); clear hb hb3)
        | (go_at_call 11; (with_reducible refine (wrong_yes k _ (HH.out _)).mono ?_); rintro e w5 ⟨rfl, hb⟩; have HB5 := Lib.hid ((HB.out.alloc HB.out.size _).trans (hb.mono (Nat.le_trans HB.out.size (by rw [alloc_size]; exact Nat.le_succ _)))); clear hb))
      go_ret
      exact ⟨rfl, HB5.out⟩
    | ok x =>
      obtain ⟨t, n⟩ := x
      have hp := fun w h => pnext_ok s i t n w hz1 hi2 h hn
      have hr := fun w => rnext_ok s i t n w hz1 hi2 hn
      generalize (t.kind : Int) = tk at hp hr
      generalize (t.at_ : Int) = ta at hp hr
      generalize strOf t.text = tt at hp hr
      generalize setW (inRs t.rs) 0 = t0 at hp hr
      generalize setW (inRs t.rs) 1 = t1 at hp hr
      generalize setW (inRs t.rs) 2 = t2 at hp hr
      generalize setW (inRs t.rs) 3 = t3 at hp hr
      have q1 := eql_rTok tk ta t0 t1 t2 t3 tk ta t0 t1 t2 t3 tt tt
      have q2 := gt_rTok
      have HP := Lib.hid hp
      have HR := Lib.hid hr
      clear hn hp hr
      go_enter Tryd.func4, Tryd.ntmps4
      go_wp2_with (first
        | (go_at_call 8; (with_reducible refine (HA.out _ HL.out).mono ?_); rintro e w2 ⟨rfl, hb⟩; replace HL := Lib.hid (HL.out.kept hb (Nat.le_refl _)); replace HB := Lib.hid (HB.out.trans (hb.mono HB.out.size)); clear hb)
        | (go_at_call 12; (with_reducible refine (HP.out _ HL.out.signs).mono ?_); rintro e w3 ⟨rfl, hb⟩; replace HL := Lib.hid (HL.out.kept hb (Nat.le_refl _)); replace HB := Lib.hid (HB.out.trans (hb.mono HB.out.size)); clear hb)
        | (go_at_call 13; (with_reducible refine (HR.out _).mono ?_); rintro e w4 ⟨rfl, hb⟩; have hb3 := (tk_any w3 _ _).trans (hb.mono (by rw [alloc_size]; exact Nat.le_succ _)); replace HB := Lib.hid (HB.out.trans (hb3.mono HB.out.size)); obtain ⟨⟨d0, d1, d2, d3, d4, d5, d6⟩, hfr⟩ := (Tok7.new w3 _ _ _ _ _ _ _).below hb (by rw [alloc_size]; exact Nat.lt_succ_self _); have hs34 : w3.heap.size < w4.heap.size := Nat.lt_of_lt_of_le (by rw [alloc_size]; exact Nat.lt_succ_self _) hb.size; clear hb hb3))
      go_ret
      exact ⟨rfl, HB.out.alloc HB.out.size _⟩
end Go.Proofs.YtipokoalcbaolaaDoor
