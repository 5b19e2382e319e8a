/- The walk of the law EscapePlain, given that the fixed examples are as documented. -/
import Derived.Test.YtlcaclemogamdaaEscForm
namespace Go.Proofs.Ytlcaclemogamdaa
open Go.RowKit
/-- What the law's check of the fixed examples returns, in every world. -/
def AwakeAt : Prop := ∀ w : World, Calls Try.prog 8 #[] w fun e w' => e = .returned (.bool true) ∧ Below w.heap.size w w'
def goodB (x : Nat) : Bool := decide (32 ≤ x) && (decide (x < 127) || decide (192 ≤ x))
def plainOk (c : Nat) (cl : Bool) : Bool :=
  (formL c cl).all goodB && decide (0 < (formL c cl).length ∧ (formL c cl).length ≤ 4) && (if (formL c cl).length = 1 then decide ((formL c cl).headD 0 = c ∧ c ≠ 92) && (!cl || decide (c ≠ 93 ∧ c ≠ 45)) else decide ((formL c cl).headD 0 = 92))
theorem plain_all : ((List.range 256).all fun c => plainOk c true && plainOk c false) = true := by decide +kernel
theorem plain_ok (c : Nat) (cl : Bool) (h : c < 256) : plainOk c cl = true := by
  have := List.all_eq_true.1 plain_all c (List.mem_range.2 h)
  rw [Bool.and_eq_true] at this
  cases cl
  · exact this.2
  · exact this.1
theorem formL_lt (c : Nat) (cl : Bool) (h : c < 256) : ∀ x, x ∈ formL c cl → x < 256 := by
  have hh : ((List.range 256).all fun c => (formL c true).all (fun x => decide (x < 256)) && (formL c false).all (fun x => decide (x < 256))) = true := by decide +kernel
  have := List.all_eq_true.1 hh c (List.mem_range.2 h)
  rw [Bool.and_eq_true] at this
  intro x hx
  cases cl
  · exact of_decide_eq_true (List.all_eq_true.1 this.2 x hx)
  · exact of_decide_eq_true (List.all_eq_true.1 this.1 x hx)
theorem bts_form (c : Nat) (cl : Bool) (h : c < 256) : bts (strOf (formL c cl)) = formL c cl := bts_strOf _ (formL_lt c cl h)
theorem plain_facts (c : Nat) (cl : Bool) (h : c < 256) (s : ByteArray) (hs : s = strOf (formL c cl)) :
    (0 < s.size ∧ s.size ≤ 4) ∧ (∀ k (hk : k < s.size), 32 ≤ s[k].toNat ∧ (s[k].toNat < 127 ∨ 192 ≤ s[k].toNat)) ∧
    (s.size = 1 → ∀ h0 : 0 < s.size, s[0].toNat = c ∧ c ≠ 92 ∧ (cl = true → c ≠ 93 ∧ c ≠ 45)) ∧ (s.size ≠ 1 → ∀ h0 : 0 < s.size, s[0].toNat = 92) := by
  have hb : bts s = formL c cl := by rw [hs]; exact bts_form c cl h
  have hz : s.size = (formL c cl).length := by rw [hs]; exact strOf_size _
  have hp := plain_ok c cl h
  unfold plainOk at hp
  rw [Bool.and_eq_true, Bool.and_eq_true, decide_eq_true_eq, List.all_eq_true] at hp
  obtain ⟨⟨p1, p2⟩, p3⟩ := hp
  have hh : ∀ h0 : 0 < s.size, (formL c cl).headD 0 = s[0].toNat := fun h0 => by rw [← hb, bts_cons s h0]; rfl
  refine ⟨by rw [hz]; exact p2, fun k hk => ?_, fun h1 h0 => ?_, fun h1 h0 => ?_⟩
  · have := p1 s[k].toNat (List.mem_of_getElem? (i := k) (by rw [← hb]; exact bts_at s k hk))
    unfold goodB at this
    simpa using this
  · rw [if_pos (by omega), hh h0] at p3
    simp only [Bool.and_eq_true, decide_eq_true_eq] at p3
    refine ⟨p3.1.1, p3.1.2, fun e => ?_⟩
    have := p3.2
    rw [e] at this
    simpa using this
  · rw [if_neg (by omega), hh h0] at p3
    exact of_decide_eq_true p3
theorem ibne_yes {c k : Int} (h : c ≠ k) : (c != k) = true := by rw [bne_iff_ne]; exact h
theorem eform (c : Int) (cl : Bool) (s : ByteArray) (w : World) (h0 : 0 ≤ c) (h1 : c < 256) (hs : s = strOf (formL c.toNat cl)) :
    Calls Try.prog 11 #[.int .u8 c, .bool cl] w fun e w' => e = .returned (.string s) ∧ Below w.heap.size w w' := by
  subst hs; exact form_any c cl w h0 h1
theorem rform (c : Int) (cl : Bool) (s : ByteArray) (w : World) (h0 : 0 ≤ c) (h1 : c < 256) (hs : s = strOf (formL c.toNat cl)) :
    Calls Try.prog 12 #[.int .u8 c, .bool cl] w fun e w' => e = .returned (.string s) ∧ Below w.heap.size w w' := by
  subst hs; exact rform_any c cl w h0 h1
set_option maxHeartbeats 2000000 in
theorem plain_any (hA : AwakeAt) (c : Int) (cl : Bool) (w : World) (h0 : 0 ≤ c) (h1 : c < 256) :
    Calls Try.prog 7 #[.int .u8 c, .bool cl] w fun e w' => e = .returned (.bool true) ∧ Below w.heap.size w w' := by
  obtain ⟨s, hs⟩ : ∃ s, s = strOf (formL c.toNat cl) := ⟨_, rfl⟩
  obtain ⟨⟨z1, z4⟩, hg, hone, hmany⟩ := plain_facts c.toNat cl (by omega) s hs
  have HG := Lib.hid hg
  have HO := Lib.hid hone
  have HM := Lib.hid hmany
  have HS := Lib.hid hs
  unfold AwakeAt at hA
  have HA := Lib.hid hA
  have hE := isEmpty_no z1
  clear hs hg hone hmany hA
  go_enter Try.func7, Try.ntmps7
  go_wp2_with (first
    | (go_at_call 8; (with_reducible refine (HA.out _).mono ?_); rintro e w1 ⟨rfl, hb1⟩)
    | (go_at_call 11; (with_reducible refine (eform c cl s _ h0 h1 HS.out).mono ?_); rintro e w2 ⟨rfl, hb2⟩))
  go_loop [6] (fun i => ∃ k : Nat, k ≤ s.size ∧ i = .int .i64 k) (fun i => s.size - (intOf i).toNat)
  case atStart => exact ⟨0, Nat.zero_le _, rfl⟩
  case round =>
    obtain ⟨k, hk, rfl⟩ := hrel
    by_cases hlt : k < s.size
    · obtain ⟨g1, g2⟩ := HG.out k hlt
      have g1' : ¬ (s[k].toNat : Int) < 32 := by omega
      by_cases g3 : 127 ≤ (s[k].toNat : Int)
      · have g4 : ¬ (s[k].toNat : Int) < 192 := by omega
        clear g1 g2
        go_wp2
        go_round
        case rel => exact ⟨k + 1, by omega, by go_num⟩
        case measure => simp [intOf]; omega
      · clear g1 g2
        go_wp2
        go_round
        case rel => exact ⟨k + 1, by omega, by go_num⟩
        case measure => simp [intOf]; omega
    · have hB : Below w.heap.size w w2 := hb1.trans (hb2.mono hb1.size)
      have HB := Lib.hid hB
      clear hb1 hb2 hB
      by_cases h1z : s.size = 1
      · obtain ⟨o1, o2, o3⟩ := HO.out h1z z1
        have hc : (s[0].toNat : Int) = c := by omega
        have c1 := ibeq_no (c := c) (k := 92) (by omega)
        have c2 := ibne_yes (c := c) (k := 92) (by omega)
        have e1 : ((s.size : Int) == 1) = true := by rw [h1z]; rfl
        clear h1z
        cases cl
        · clear o1 o2 o3
          go_wp2
          go_ret
          exact ⟨rfl, HB.out⟩
        · have o3 := o3 rfl
          have c3 := ibeq_no (c := c) (k := 93) (by omega)
          have c4 := ibne_yes (c := c) (k := 93) (by omega)
          have c5 := ibeq_no (c := c) (k := 45) (by omega)
          have c6 := ibne_yes (c := c) (k := 45) (by omega)
          clear o1 o2 o3
          go_wp2
          go_ret
          exact ⟨rfl, HB.out⟩
      · have hm := HM.out h1z z1
        have e1 : ((s.size : Int) == 1) = false := by rw [beq_eq_false_iff_ne]; omega
        clear h1z
        go_wp2
        go_ret
        exact ⟨rfl, HB.out⟩
end Go.Proofs.Ytlcaclemogamdaa
