/- flow: container/heap over the queue. -/
import Derived.Test.YtocklhehfdilmaaPkFlowQ
namespace Go.Proofs.Ytocklhehfdilmaa
open Go.RowKit
set_option maxHeartbeats 4000000 in
set_option maxRecDepth 100000 in
theorem fup_any (base B : Nat) (hv : Value) (l : List Int) (j : Nat) (w : World) (hQ : QF base B hv l w) (hj : j < l.length) (hl : l.length ≤ 1000000) :
    Calls Try.prog 43 #[.iface 56 (.pointer (some ⟨B, 0, none⟩)), .int .i64 (j : Int)] w fun e w' => (∃ v, e = .returned v) ∧ PermF base B hv l w w' := by
  have m1 := fm_less B
  have m2 := fm_swap B
  have q1 := fc_less
  have q2 := fc_swap
  go_enter Try.func43, Try.ntmps43
  go_wp2
  go_loopw [1] (fun c wr => ∃ (l' : List Int) (j : Nat), c = .int .i64 (j : Int) ∧ QF base B hv l' wr ∧ l'.Perm l ∧ j < l'.length ∧ Kp base B B 3 w wr) (fun c _ => (intOf c).toNat)
  case atStart => exact ⟨l, j, rfl, hQ, List.Perm.refl _, hj, Kp.of_below (Below.refl _ _)⟩
  case round =>
    obtain ⟨m, i, rfl, hQm, hpm, him, hkm⟩ := hrel
    have hml : m.length ≤ 1000000 := by rw [hpm.length_eq]; exact hl
    have HK := Lib.hid hkm
    have HP := Lib.hid hpm
    have HQ := Lib.hid hQm
    by_cases h0 : i = 0
    · subst h0
      clear hkm hpm hQm
      go_wp2
      go_end0
      exact ⟨⟨_, rfl⟩, _, HQ.out, HP.out, HK.out⟩
    · obtain ⟨p, hp⟩ : ∃ p : Nat, ((i : Int) - 1) / 2 = (p : Int) := ⟨(i - 1) / 2, by omega⟩
      have hpi : p < i := by omega
      obtain ⟨x, hx⟩ : ∃ x, m[i]? = some x := ⟨_, List.getElem?_eq_getElem him⟩
      obtain ⟨y, hy⟩ : ∃ y, m[p]? = some y := ⟨_, List.getElem?_eq_getElem (by omega)⟩
      have HC := Lib.hid (fless_any base B i p hv m x y _ wr hQm hx hy rfl)
      have k1 : ((p : Int) == (i : Int)) = false := by rw [beq_eq_false_iff_ne]; omega
      clear hkm hpm hQm hx hy
      cases hxy : decide (x < y) with
      | false =>
        rw [hxy] at HC
        go_wp2_with (go_at_call 64; (with_reducible refine HC.out.mono ?_); rintro e w2 ⟨rfl, hb⟩; have HB2 := Lib.hid hb; clear hb)
        go_end0
        exact ⟨⟨_, rfl⟩, _, HQ.out.below HB2.out, HP.out, HK.out.trans (Kp.of_below HB2.out)⟩
      | true =>
        rw [hxy] at HC
        go_wp2_with (first
          | (go_at_call 64; (with_reducible refine HC.out.mono ?_); rintro e w2 ⟨rfl, hb⟩; have HQ2 := Lib.hid (HQ.out.below hb); have HK2 := Lib.hid (HK.out.trans (Kp.of_below hb)); clear hb)
          | (go_at_call 67; (with_reducible refine (fswap_any base B p i hv m _ HQ2.out (by omega) him).mono ?_); rintro e w3 ⟨⟨v3, rfl⟩, hp3⟩; have HP3 := Lib.hid hp3; clear hp3))
        obtain ⟨m', h1, h2, h3⟩ := HP3.out
        exact ⟨⟨m', p, rfl, h1, h2.trans HP.out, by rw [h2.length_eq]; omega, HK2.out.trans h3⟩, by simp [intOf]; omega⟩
set_option maxHeartbeats 8000000 in
set_option maxRecDepth 100000 in
theorem fdown_any (base B n : Nat) (hv : Value) (l : List Int) (w : World) (hQ : QF base B hv l w) (hn : n ≤ l.length) (hn0 : 0 < l.length) (hl : l.length ≤ 1000000) :
    Calls Try.prog 44 #[.iface 56 (.pointer (some ⟨B, 0, none⟩)), .int .i64 0, .int .i64 (n : Int)] w fun e w' => (∃ v, e = .returned v) ∧ PermF base B hv l w w' := by
  have m1 := fm_less B
  have m2 := fm_swap B
  have q1 := fc_less
  have q2 := fc_swap
  go_enter Try.func44, Try.ntmps44
  go_wp2
  go_loopw [7] (fun c wr => ∃ (m : List Int) (j : Nat), c = .int .i64 (j : Int) ∧ QF base B hv m wr ∧ m.Perm l ∧ j < m.length ∧ Kp base B B 3 w wr) (fun c _ => l.length - (intOf c).toNat)
  case atStart => exact ⟨l, 0, rfl, hQ, List.Perm.refl _, hn0, Kp.of_below (Below.refl _ _)⟩
  case round =>
    obtain ⟨m, i, rfl, hQm, hpm, him, hkm⟩ := hrel
    have hlen := hpm.length_eq
    have HQ := Lib.hid hQm
    have HP := Lib.hid hpm
    have HK := Lib.hid hkm
    have e1 : (2 : Int) * (i : Int) + 1 = ((2 * i + 1 : Nat) : Int) := by omega
    obtain ⟨p, hp⟩ : ∃ p : Nat, p = 2 * i + 1 := ⟨_, rfl⟩
    rw [← hp] at e1
    have w1 : IntKind.i64.wrap ((2 : Int) * (i : Int)) = (2 : Int) * (i : Int) := IntWalk.i64_in _ (by omega)
    have w2 : IntKind.i64.wrap ((2 : Int) * (i : Int) + 1) = (p : Int) := by rw [e1]; exact IntWalk.i64_in _ (by omega)
    have HIM := Lib.hid him
    have HLEN := Lib.hid hlen
    have HPI := Lib.hid hp
    clear hQm hkm hpm hQ e1
    by_cases h0 : n ≤ p
    · have k1 : (n : Int) ≤ (p : Int) := by omega
      clear him hlen hp h0
      go_wp2
      go_ret
      exact ⟨⟨_, rfl⟩, m, HQ.out, HP.out, HK.out⟩
    · have k1 : ¬ (n : Int) ≤ (p : Int) := by omega
      have k2 : ¬ (p : Int) < 0 := by omega
      obtain ⟨x, hx⟩ : ∃ x, m[i]? = some x := ⟨_, List.getElem?_eq_getElem him⟩
      obtain ⟨y, hy⟩ : ∃ y, m[p]? = some y := ⟨_, List.getElem?_eq_getElem (by omega)⟩
      have e2 : (p : Int) + 1 = ((p + 1 : Nat) : Int) := by omega
      obtain ⟨r, hr⟩ : ∃ r : Nat, r = p + 1 := ⟨_, rfl⟩
      rw [← hr] at e2
      have w3 : IntKind.i64.wrap ((p : Int) + 1) = (r : Int) := by rw [e2]; exact IntWalk.i64_in _ (by omega)
      clear e2
      have HX := Lib.hid hx
      have HY := Lib.hid hy
      have HPL := Lib.hid (show p < m.length by omega)
      have HRI := Lib.hid hr
      by_cases h2 : r < n
      · have k3 : (r : Int) < (n : Int) := by omega
        obtain ⟨z, hz⟩ : ∃ z, m[r]? = some z := ⟨_, List.getElem?_eq_getElem (by omega)⟩
        have HZ := Lib.hid hz
        have HRL := Lib.hid (show r < m.length by omega)
        clear hz hx hy him hlen hp hr h0 h2
        cases hzy : decide (z < y) with
        | true =>
          cases hc : decide (z < x) with
          | false =>
            go_wp2_with (first
              | (go_at_call 64; (with_reducible refine (fless_any base B r p hv m z y true _ HQ.out HZ.out HY.out hzy).mono ?_); rintro e w5 ⟨rfl, hb⟩; have HQ2 := Lib.hid (HQ.out.below hb); have HK2 := Lib.hid (HK.out.trans (Kp.of_below hb)); clear hb)
              | (go_at_call 64; (with_reducible refine (fless_any base B r i hv m z x false _ HQ2.out HZ.out HX.out hc).mono ?_); rintro e w6 ⟨rfl, hb⟩; have HQ3 := Lib.hid (HQ2.out.below hb); have HK3 := Lib.hid (HK2.out.trans (Kp.of_below hb)); clear hb))
            go_ret
            exact ⟨⟨_, rfl⟩, m, HQ3.out, HP.out, HK3.out⟩
          | true =>
            go_wp2_with (first
              | (go_at_call 64; (with_reducible refine (fless_any base B r p hv m z y true _ HQ.out HZ.out HY.out hzy).mono ?_); rintro e w5 ⟨rfl, hb⟩; have HQ2 := Lib.hid (HQ.out.below hb); have HK2 := Lib.hid (HK.out.trans (Kp.of_below hb)); clear hb)
              | (go_at_call 64; (with_reducible refine (fless_any base B r i hv m z x true _ HQ2.out HZ.out HX.out hc).mono ?_); rintro e w6 ⟨rfl, hb⟩; have HQ3 := Lib.hid (HQ2.out.below hb); have HK3 := Lib.hid (HK2.out.trans (Kp.of_below hb)); clear hb)
              | (go_at_call 67; (with_reducible refine (fswap_any base B i r hv m _ HQ3.out HIM.out HRL.out).mono ?_); rintro e w7 ⟨⟨v7, rfl⟩, hp4⟩; have HP4 := Lib.hid hp4; clear hp4))
            obtain ⟨m', g1, g2, g3⟩ := HP4.out
            exact ⟨⟨m', r, rfl, g1, g2.trans HP.out, by rw [g2.length_eq]; exact HRL.out, HK3.out.trans g3⟩, by have := HPI.out; have := HRI.out; have := HIM.out; have := HLEN.out; simp [intOf]; omega⟩
        | false =>
          cases hc : decide (y < x) with
          | false =>
            go_wp2_with (first
              | (go_at_call 64; (with_reducible refine (fless_any base B r p hv m z y false _ HQ.out HZ.out HY.out hzy).mono ?_); rintro e w5 ⟨rfl, hb⟩; have HQ2 := Lib.hid (HQ.out.below hb); have HK2 := Lib.hid (HK.out.trans (Kp.of_below hb)); clear hb)
              | (go_at_call 64; (with_reducible refine (fless_any base B p i hv m y x false _ HQ2.out HY.out HX.out hc).mono ?_); rintro e w6 ⟨rfl, hb⟩; have HQ3 := Lib.hid (HQ2.out.below hb); have HK3 := Lib.hid (HK2.out.trans (Kp.of_below hb)); clear hb))
            go_ret
            exact ⟨⟨_, rfl⟩, m, HQ3.out, HP.out, HK3.out⟩
          | true =>
            go_wp2_with (first
              | (go_at_call 64; (with_reducible refine (fless_any base B r p hv m z y false _ HQ.out HZ.out HY.out hzy).mono ?_); rintro e w5 ⟨rfl, hb⟩; have HQ2 := Lib.hid (HQ.out.below hb); have HK2 := Lib.hid (HK.out.trans (Kp.of_below hb)); clear hb)
              | (go_at_call 64; (with_reducible refine (fless_any base B p i hv m y x true _ HQ2.out HY.out HX.out hc).mono ?_); rintro e w6 ⟨rfl, hb⟩; have HQ3 := Lib.hid (HQ2.out.below hb); have HK3 := Lib.hid (HK2.out.trans (Kp.of_below hb)); clear hb)
              | (go_at_call 67; (with_reducible refine (fswap_any base B i p hv m _ HQ3.out HIM.out HPL.out).mono ?_); rintro e w7 ⟨⟨v7, rfl⟩, hp4⟩; have HP4 := Lib.hid hp4; clear hp4))
            obtain ⟨m', g1, g2, g3⟩ := HP4.out
            exact ⟨⟨m', p, rfl, g1, g2.trans HP.out, by rw [g2.length_eq]; exact HPL.out, HK3.out.trans g3⟩, by have := HPI.out; have := HRI.out; have := HIM.out; have := HLEN.out; simp [intOf]; omega⟩
      · have k3 : ¬ (r : Int) < (n : Int) := by omega
        clear hx hy him hlen hp hr h0 h2
        cases hc : decide (y < x) with
        | false =>
          go_wp2_with (go_at_call 64; (with_reducible refine (fless_any base B p i hv m y x false _ HQ.out HY.out HX.out hc).mono ?_); rintro e w6 ⟨rfl, hb⟩; have HQ3 := Lib.hid (HQ.out.below hb); have HK3 := Lib.hid (HK.out.trans (Kp.of_below hb)); clear hb)
          go_ret
          exact ⟨⟨_, rfl⟩, m, HQ3.out, HP.out, HK3.out⟩
        | true =>
          go_wp2_with (first
              | (go_at_call 64; (with_reducible refine (fless_any base B p i hv m y x true _ HQ.out HY.out HX.out hc).mono ?_); rintro e w6 ⟨rfl, hb⟩; have HQ3 := Lib.hid (HQ.out.below hb); have HK3 := Lib.hid (HK.out.trans (Kp.of_below hb)); clear hb)
              | (go_at_call 67; (with_reducible refine (fswap_any base B i p hv m _ HQ3.out HIM.out HPL.out).mono ?_); rintro e w7 ⟨⟨v7, rfl⟩, hp4⟩; have HP4 := Lib.hid hp4; clear hp4))
          obtain ⟨m', g1, g2, g3⟩ := HP4.out
          exact ⟨⟨m', p, rfl, g1, g2.trans HP.out, by rw [g2.length_eq]; exact HPL.out, HK3.out.trans g3⟩, by have := HPI.out; have := HRI.out; have := HIM.out; have := HLEN.out; simp [intOf]; omega⟩
set_option maxHeartbeats 4000000 in
set_option maxRecDepth 100000 in
theorem fhpush_any (base B : Nat) (hv : Value) (l : List Int) (x : Int) (w : World) (hQ : QF base B hv l w) (hl : l.length ≤ 900000) (hbs : base ≤ w.heap.size) :
    Calls Try.prog 33 #[.iface 56 (.pointer (some ⟨B, 0, none⟩)), .iface 3 (.int .i64 x)] w fun e w' => (∃ v, e = .returned v) ∧ PermF base B hv (l ++ [x]) w w' := by
  have m1 := fm_push B
  have m2 := fm_len B
  have q1 := fc_push
  have q2 := fc_len
  have HC := Lib.hid (fpush_any base B hv l x w hQ (by omega) hbs)
  have hl2 : (l ++ [x]).length = l.length + 1 := by simp
  have HL2 := Lib.hid hl2
  have ew : IntKind.i64.wrap (((l.length + 1 : Nat) : Int) - 1) = (l.length : Int) := (by rw [show ((l.length + 1 : Nat) : Int) - 1 = (l.length : Int) by omega]; exact IntWalk.i64_in _ (by omega))
  clear hQ hl2
  go_enter Try.func33, Try.ntmps33
  go_wp2_with (first
    | (go_at_call 66; (with_reducible refine HC.out.mono ?_); rintro e w2 ⟨⟨v2, rfl⟩, hq2, hk2⟩; have HK2 := Lib.hid hk2; have HQ2 := Lib.hid hq2; clear hq2 hk2)
    | (go_at_call 26; (with_reducible refine (flen_any base B hv _ _ HQ2.out).mono ?_); rintro e w3 ⟨rfl, hw⟩; obtain rfl := hw.symm; rw [HL2.out]; clear hw)
    | (go_at_call 43; (with_reducible refine (fup_any base B hv (l ++ [x]) l.length _ HQ2.out (by rw [HL2.out]; omega) (by rw [HL2.out]; omega)).mono ?_); rintro e w4 ⟨⟨v4, rfl⟩, hp4⟩; have HP4 := Lib.hid hp4; clear hp4))
  go_end0
  exact ⟨⟨_, rfl⟩, HP4.out.trans (List.Perm.refl _) HK2.out⟩
def PopF (base B : Nat) (hv : Value) (l : List Int) (w : World) (e : Ending) (w' : World) : Prop := ∃ (x : Int) (m : List Int), e = .returned (.iface 3 (.int .i64 x)) ∧ QF base B hv m w' ∧ (m ++ [x]).Perm l ∧ Kp base B B 3 w w'
theorem QF.last {base B : Nat} {hv : Value} {l : List Int} {w : World} (h : QF base B hv l w) (h0 : 0 < l.length) : ∃ m x, l = m ++ [x] ∧ QF base B hv (m ++ [x]) w := by
  refine ⟨l.dropLast, l.getLast (by intro e; rw [e] at h0; exact absurd h0 (Nat.lt_irrefl _)), ?_, ?_⟩
  · rw [List.dropLast_concat_getLast]
  · rw [List.dropLast_concat_getLast]; exact h
set_option maxHeartbeats 4000000 in
set_option maxRecDepth 100000 in
theorem fhpop_any (base B n : Nat) (hv : Value) (l : List Int) (w : World) (hQ : QF base B hv l w) (hn : l.length = n + 1) (hl : n ≤ 900000) :
    Calls Try.prog 34 #[.iface 56 (.pointer (some ⟨B, 0, none⟩))] w (PopF base B hv l w) := by
  have m1 := fm_len B
  have m2 := fm_swap B
  have m3 := fm_pop B
  have q1 := fc_len
  have q2 := fc_swap
  have q3 := fc_pop
  have ew : IntKind.i64.wrap (((n + 1 : Nat) : Int) - 1) = (n : Int) := by rw [show ((n + 1 : Nat) : Int) - 1 = (n : Int) by omega]; exact IntWalk.i64_in _ (by omega)
  have HC := Lib.hid (fswap_any base B 0 n hv l w hQ (by omega) (by omega))
  rw [show ((0 : Nat) : Int) = 0 from rfl] at HC
  have HQ := Lib.hid hQ
  have HN := Lib.hid hn
  clear hQ hn
  go_enter Try.func34, Try.ntmps34
  go_wp2_with (first
    | (go_at_call 26; (with_reducible refine (flen_any base B hv _ _ HQ.out).mono ?_); rintro e w1 ⟨rfl, hw⟩; obtain rfl := hw.symm; rw [HN.out]; clear hw)
    | (go_at_call 67; (with_reducible refine HC.out.mono ?_); rintro e w2 ⟨⟨v2, rfl⟩, l2, hq2, hp2, hk2⟩; have HQ2 := Lib.hid hq2; have HP2 := Lib.hid hp2; have HK2 := Lib.hid hk2; have HL2 := Lib.hid (show l2.length = n + 1 by rw [hp2.length_eq]; exact HN.out); clear hq2 hp2 hk2)
    | (go_at_call 44; (with_reducible refine (fdown_any base B n hv l2 _ HQ2.out (by rw [HL2.out]; omega) (by rw [HL2.out]; omega) (by rw [HL2.out]; omega)).mono ?_); rintro e w3 ⟨⟨v3, rfl⟩, l3, hq3, hp3, hk3⟩; have HL3 := Lib.hid (show l3.length = n + 1 by rw [hp3.length_eq]; exact HL2.out); obtain ⟨m, x, hlx, hq4⟩ := hq3.last (by rw [HL3.out]; omega); have HM := Lib.hid (show m.length = n by have := HL3.out; rw [hlx] at this; simpa using this); have HQ3 := Lib.hid hq4; have HP3 := Lib.hid (show (m ++ [x]).Perm l by rw [← hlx]; exact hp3.trans HP2.out); have HK3 := Lib.hid (HK2.out.trans hk3); clear hq3 hp3 hk3 hq4 hlx)
    | (go_at_call 65; (with_reducible refine (fpop_any base B hv m x _ HQ3.out (by rw [HM.out]; omega)).mono ?_); rintro e w4 ⟨rfl, hq5, hk5⟩; have HQ5 := Lib.hid hq5; have HK5 := Lib.hid (HK3.out.trans hk5); clear hq5 hk5))
  go_ret
  exact ⟨x, m, rfl, HQ5.out, HP3.out, HK5.out⟩
end Go.Proofs.Ytocklhehfdilmaa
