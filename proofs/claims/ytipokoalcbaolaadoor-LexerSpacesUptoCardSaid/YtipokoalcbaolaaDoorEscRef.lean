/- The contracts of the reference's readers: in, digits, Read. -/
import Derived.Test.YtipokoalcbaolaaDoorBase
import Derived.Deep.QuietTactic
import Derived.BigQuiet
import Derived.IntWalk
namespace Go.Proofs.YtipokoalcbaolaaDoor
open Go.RowKit
def inB (c : Nat) : List Nat → Bool
  | [] => false
  | d :: r => if d = c then true else inB c r
theorem inB_yes {c d : Nat} {r : List Nat} (h : d = c) : inB c (d :: r) = true := by
  show (if d = c then true else inB c r) = true
  rw [if_pos h]
theorem inB_no {c d : Nat} {r : List Nat} (h : ¬ d = c) : inB c (d :: r) = inB c r := by
  show (if d = c then true else inB c r) = inB c r
  rw [if_neg h]
set_option maxHeartbeats 400000 in
theorem in_any (c : Nat) (s : ByteArray) (w : World) (hs : s.size ≤ 2000000) :
    Calls Tryd.prog 36 #[.int .u8 (c : Int), .string s] w fun e w' => e = .returned (.bool (inB c (bts s))) ∧ w' = w := by
  go_enter Tryd.func36, Tryd.ntmps36
  go_wp2
  go_loop [5] (fun i => ∃ k : Nat, k ≤ s.size ∧ i = .int .i64 k ∧ inB c (bts s) = inB c ((bts s).drop k)) (fun i => s.size - (intOf i).toNat)
  case atStart => exact ⟨0, Nat.zero_le _, rfl, rfl⟩
  case round =>
    obtain ⟨k, hk, rfl, hi⟩ := hrel
    have HI := Lib.hid hi
    clear hi
    by_cases hlt : k < s.size
    · have hd := Lib.hid (bts_drop s k hlt)
      by_cases he : s[k].toNat = c
      · have hr := Lib.hid (show inB c (bts s) = true by rw [HI.out, hd.out, inB_yes he])
        go_wp2
        go_ret
        exact ⟨ret_bool hr.out.symm, rfl⟩
      · have hr := Lib.hid (show inB c (bts s) = inB c ((bts s).drop (k + 1)) by rw [HI.out, hd.out, inB_no he])
        have hb : ((s[k].toNat : Int) == (c : Int)) = false := by rw [beq_eq_false_iff_ne]; omega
        go_wp2
        go_round
        case rel => exact ⟨k + 1, by omega, by go_num, hr.out⟩
        case measure => simp [intOf]; omega
    · have hr := Lib.hid (show inB c (bts s) = false by rw [HI.out, List.drop_eq_nil_of_le (by rw [bts_length]; omega)]; rfl)
      go_wp2
      go_ret
      exact ⟨ret_bool hr.out.symm, rfl⟩
theorem all_snoc (l : List Nat) (k : Nat) (d : Nat) (r : List Nat) (h : l.drop k = d :: r) : (l.take (k + 1)).all oct = ((l.take k).all oct && oct d) := by
  have hk : k < l.length := by
    rcases Nat.lt_or_ge k l.length with h' | h'
    · exact h'
    · rw [List.drop_eq_nil_of_le h'] at h; cases h
  rw [List.drop_eq_getElem_cons hk] at h
  rw [List.take_succ_eq_append_getElem hk, List.all_append, ← (List.cons.inj h).1]
  simp
theorem all_false {l : List Nat} {m k d : Nat} {r : List Nat} (h : l.drop k = d :: r) (hd : oct d = false) (hk : k < m) : (l.take m).all oct = false := by
  have h1 := all_snoc l k d r h
  rw [hd, Bool.and_false] at h1
  cases he : (l.take m).all oct with
  | false => rfl
  | true =>
    rw [List.all_eq_true] at he
    have : (l.take (k + 1)).all oct = true := by
      rw [List.all_eq_true]
      intro x hx
      exact he x (by
        have e : l.take (k + 1) = (l.take m).take (k + 1) := by rw [List.take_take, Nat.min_eq_left hk]
        rw [e] at hx
        exact List.mem_of_mem_take hx)
    rw [this] at h1; cases h1
theorem dg_long {l : List Nat} {m mx : Nat} (h : ¬ m ≤ l.length) : dg l m mx = false := by unfold dg; simp [h]
theorem dg_head {l : List Nat} {m mx d : Nat} {r : List Nat} (h : l = d :: r) (hd : ¬ (48 ≤ d ∧ d ≤ mx)) : dg l m mx = false := by
  subst h; unfold dg; rw [List.headD_cons]; simp only [hd, decide_false, Bool.false_and, Bool.and_false]
theorem dg_all {l : List Nat} {m mx d : Nat} {r : List Nat} (h : l = d :: r) (hm : m ≤ l.length) (hd : 48 ≤ d ∧ d ≤ mx) {b : Bool} (hb : (l.take m).all oct = b) : dg l m mx = b := by
  subst h; subst hb; unfold dg; rw [List.headD_cons, decide_eq_true hm, decide_eq_true hd, Bool.true_and, Bool.true_and]
set_option maxHeartbeats 1000000 in
theorem digits_any (s : ByteArray) (p m mx : Nat) (w : World) (hs : s.size ≤ 2000000) (hp : p < s.size) (h1 : 1 ≤ m) (h3 : m ≤ 3) :
    Calls Tryd.prog 37 #[.string s, .int .i64 (p : Int), .int .i64 (m : Int), .int .u8 (mx : Int)] w fun e w' => e = .returned (.bool (dg ((bts s).drop p) m mx)) ∧ w' = w := by
  have hd := Lib.hid (bts_drop s p hp)
  have hlen : ((bts s).drop p).length = s.size - p := by rw [List.length_drop, bts_length]
  by_cases hm : p + m ≤ s.size
  · have hm' : ¬ (s.size : Int) < (p : Int) + m := by omega
    by_cases h48 : 48 ≤ s[p].toNat
    · have h48' : ¬ (s[p].toNat : Int) < 48 := by omega
      by_cases hmx : s[p].toNat ≤ mx
      · have hmx' : ¬ (mx : Int) < (s[p].toNat : Int) := by omega
        have HA : ∀ b, (((bts s).drop p).take m).all oct = b → dg ((bts s).drop p) m mx = b := fun b hb => dg_all hd.out (by rw [hlen]; omega) ⟨h48, hmx⟩ hb
        have HD := Lib.hid HA
        clear HA
        have HL := Lib.hid hlen
        clear hlen
        go_enter Tryd.func37, Tryd.ntmps37
        go_wp2
        go_loop [9] (fun i => ∃ k : Nat, k ≤ m ∧ i = .int .i64 ((p + k : Nat) : Int) ∧ (((bts s).drop p).take k).all oct = true) (fun i => p + m - (intOf i).toNat)
        case atStart => exact ⟨0, Nat.zero_le _, rfl, by simp⟩
        case round =>
          obtain ⟨k, hk, rfl, hi⟩ := hrel
          have HI := Lib.hid hi
          clear hi
          by_cases hlt : k < m
          · have hpk : p + k < s.size := by omega
            have hdk : ((bts s).drop p).drop k = s[p + k].toNat :: (bts s).drop (p + k + 1) := by rw [List.drop_drop]; exact bts_drop s (p + k) hpk
            have hsn := all_snoc _ _ _ _ hdk
            rw [HI.out, Bool.true_and] at hsn
            have HS := Lib.hid hsn
            have HK := Lib.hid hdk
            clear hsn hdk
            have hlt' : (p : Int) + k < (p : Int) + m := by omega
            by_cases ho : 48 ≤ s[p + k].toNat ∧ s[p + k].toNat ≤ 55
            · have ho' := Lib.hid ((oct_iff _).2 ho)
              obtain ⟨oa, ob⟩ := ho
              have oa' : ¬ (s[p + k].toNat : Int) < 48 := by omega
              have ob' : ¬ 55 < (s[p + k].toNat : Int) := by omega
              go_wp2
              go_round
              case rel => exact ⟨k + 1, by omega, by go_num, by rw [HS.out]; exact ho'.out⟩
              case measure => simp [intOf]; omega
            · have hr := Lib.hid (HD.out false (all_false HK.out ((oct_no _).2 ho) hlt))
              by_cases oa : 48 ≤ s[p + k].toNat
              · have oa' : ¬ (s[p + k].toNat : Int) < 48 := by omega
                have ob' : 55 < (s[p + k].toNat : Int) := by omega
                go_wp2
                go_ret
                exact ⟨ret_bool hr.out.symm, rfl⟩
              · have oa' : (s[p + k].toNat : Int) < 48 := by omega
                go_wp2
                go_ret
                exact ⟨ret_bool hr.out.symm, rfl⟩
          · obtain rfl : k = m := by omega
            have hr := Lib.hid (HD.out true HI.out)
            have hlt' : ¬ (p : Int) + k < (p : Int) + k := by omega
            go_wp2
            go_ret
            exact ⟨ret_bool hr.out.symm, rfl⟩
      · have hr := Lib.hid (dg_head (m := m) (mx := mx) hd.out (by omega))
        have hmx' : (mx : Int) < (s[p].toNat : Int) := by omega
        go_enter Tryd.func37, Tryd.ntmps37
        go_wp2
        go_ret
        exact ⟨ret_bool hr.out.symm, rfl⟩
    · have hr := Lib.hid (dg_head (m := m) (mx := mx) hd.out (by omega))
      have h48' : (s[p].toNat : Int) < 48 := by omega
      go_enter Tryd.func37, Tryd.ntmps37
      go_wp2
      go_ret
      exact ⟨ret_bool hr.out.symm, rfl⟩
  · have hr := Lib.hid (dg_long (m := m) (mx := mx) (l := (bts s).drop p) (by rw [hlen]; omega))
    have hm' : (s.size : Int) < (p : Int) + m := by omega
    go_enter Tryd.func37, Tryd.ntmps37
    go_wp2
    go_ret
    exact ⟨ret_bool hr.out.symm, rfl⟩
/-- What the reference's Read returns. -/
def rreadV (l : List Nat) (p : Int) : Value :=
  match rd l p with
  | none => .tuple #[.int .i64 0, .int .i64 (-1)]
  | some (c, n) => .tuple #[.int .i64 (c : Int), .int .i64 (p + (n : Int))]
def RReadIs (l : List Nat) (p : Int) (w : World) (e : Ending) (w' : World) : Prop := e = .returned (rreadV l p) ∧ ∃ n, w' = w.drewN n
theorem RReadIs.no {l : List Nat} {p : Int} {w w' : World} (h : rd l p = none) (hw : ∃ n, w' = w.drewN n) : RReadIs l p w (.returned (.tuple #[.int .i64 0, .int .i64 (-1)])) w' := by
  unfold RReadIs rreadV; rw [h]; exact ⟨rfl, hw⟩
theorem RReadIs.yes {l : List Nat} {p : Int} {w w' : World} {c n : Nat} {x y : Int} (h : rd l p = some (c, n)) (hw : ∃ n, w' = w.drewN n) (hx : x = c) (hy : y = p + n) : RReadIs l p w (.returned (.tuple #[.int .i64 x, .int .i64 y])) w' := by
  unfold RReadIs rreadV; rw [h, hx, hy]; exact ⟨rfl, hw⟩
theorem five_not (d : Nat) (h : ¬ (d = 39 ∨ d = 34 ∨ d = 91 ∨ d = 93 ∨ d = 92)) : inB d (bts ⟨#[39, 34, 91, 93, 92]⟩) = false := by
  show inB d [39, 34, 91, 93, 92] = false
  rw [inB_no (by omega), inB_no (by omega), inB_no (by omega), inB_no (by omega), inB_no (by omega)]; rfl
theorem in_true (c : Nat) (s : ByteArray) (w : World) (hs : s.size ≤ 2000000) (h : inB c (bts s) = true) :
    Calls Tryd.prog 36 #[.int .u8 (c : Int), .string s] w fun e w' => e = .returned (.bool true) ∧ w' = w := by
  have := in_any c s w hs
  rw [h] at this; exact this
theorem in_false (c : Nat) (w : World) (h : inB c (bts ⟨#[39, 34, 91, 93, 92]⟩) = false) :
    Calls Tryd.prog 36 #[.int .u8 (c : Int), .string ⟨#[39, 34, 91, 93, 92]⟩] w fun e w' => e = .returned (.bool false) ∧ w' = w := by
  have := in_any c ⟨#[39, 34, 91, 93, 92]⟩ w (by decide)
  rw [h] at this; exact this
theorem digits_is (s : ByteArray) (k : Nat) (m mx : Nat) (b : Bool) (w : World) (hs : s.size ≤ 2000000) (hp : k + 1 < s.size) (h1 : 1 ≤ m) (h3 : m ≤ 3) (h : dg ((bts s).drop (k + 1)) m mx = b) :
    Calls Tryd.prog 37 #[.string s, .int .i64 ((k : Int) + 1), .int .i64 (m : Int), .int .u8 (mx : Int)] w fun e w' => e = .returned (.bool b) ∧ w' = w := by
  have := digits_any s (k + 1) m mx w hs hp h1 h3
  rw [h] at this; exact this
theorem digits3 (s : ByteArray) (k : Nat) (b : Bool) (w : World) (hs : s.size ≤ 2000000) (hp : k + 1 < s.size) (h : dg ((bts s).drop (k + 1)) 3 50 = b) :
    Calls Tryd.prog 37 #[.string s, .int .i64 ((k : Int) + 1), .int .i64 3, .int .u8 50] w fun e w' => e = .returned (.bool b) ∧ w' = w := digits_is s k 3 50 b w hs hp (by omega) (by omega) h
theorem digits2 (s : ByteArray) (k : Nat) (b : Bool) (w : World) (hs : s.size ≤ 2000000) (hp : k + 1 < s.size) (h : dg ((bts s).drop (k + 1)) 2 55 = b) :
    Calls Tryd.prog 37 #[.string s, .int .i64 ((k : Int) + 1), .int .i64 2, .int .u8 55] w fun e w' => e = .returned (.bool b) ∧ w' = w := digits_is s k 2 55 b w hs hp (by omega) (by omega) h
theorem digits1 (s : ByteArray) (k : Nat) (b : Bool) (w : World) (hs : s.size ≤ 2000000) (hp : k + 1 < s.size) (h : dg ((bts s).drop (k + 1)) 1 55 = b) :
    Calls Tryd.prog 37 #[.string s, .int .i64 ((k : Int) + 1), .int .i64 1, .int .u8 55] w fun e w' => e = .returned (.bool b) ∧ w' = w := digits_is s k 1 55 b w hs hp (by omega) (by omega) h
theorem dg_at {s : ByteArray} {q m mx : Nat} (hm : 1 ≤ m) (h : dg ((bts s).drop q) m mx = true) : q + m ≤ s.size ∧ (∀ h : q < s.size, s[q].toNat ≤ mx) ∧ ∀ j, j < m → ∀ h : q + j < s.size, 48 ≤ s[q + j].toNat ∧ s[q + j].toNat ≤ 55 := by
  unfold dg at h
  simp only [Bool.and_eq_true, decide_eq_true_eq] at h
  obtain ⟨h1, h2, h3⟩ := h
  rw [List.length_drop, bts_length] at h1
  refine ⟨by omega, fun h => ?_, fun j hj h => ?_⟩
  · rw [bts_drop s q h, List.headD_cons] at h2
    exact h2.2
  · rw [List.all_eq_true] at h3
    have := h3 s[q + j].toNat (by
      refine List.mem_of_getElem? (i := j) ?_
      rw [List.getElem?_take_of_lt hj, List.getElem?_drop]
      exact bts_at s (q + j) h)
    exact (oct_iff _).1 this
theorem drop_getD (s : ByteArray) (q j : Nat) (h : q + j < s.size) : ((bts s).drop q).getD j 0 = s[q + j].toNat := by
  rw [List.getD_eq_getElem?_getD, List.getElem?_drop, bts_at s (q + j) h]; rfl
theorem drew0 (w : World) : ∃ n, w = w.drewN n := ⟨0, rfl⟩
end Go.Proofs.YtipokoalcbaolaaDoor
