/- The reference's holds. slices.Equal of bools; the reference's Of and Needs. The reference's Needs. -/
import Derived.Laws.OwnMore
import Derived.Test.YtnfjbjmdempafaaPxFM
import Derived.Test.YtnfjbjmdempafaaPxWN
import Derived.Test.YtnfjbjmdempafaaPxWF
import Derived.Test.YtnfjbjmdempafaaPxFlowROf
namespace Go.Proofs.Ytnfjbjmdempafaa
open Go.RowKit
section
variable {rs : List PR} {ns : List PN} {L : List Fc} {l : List Bool} {n : PN} {i : Nat} {w : World} {rv nv fv ov : Value}
end
end Go.Proofs.Ytnfjbjmdempafaa
namespace Go.Proofs.Ytnfjbjmdempafaa
open Go.RowKit
set_option maxHeartbeats 4000000 in
theorem eqBools_any (u v : Value) (l m : List Bool) (w : World) (hl : l.length ≤ 1000000) (hu : BoolsAt w u l) (hv : BoolsAt w v m) :
    Calls Try.prog 19 #[u, v] w fun e w' => e = .returned (.bool (decide (l = m))) ∧ ∃ q, w' = w.drewN q := by
  obtain ⟨a, ca, rfl, ha⟩ := hu
  obtain ⟨b, cb, rfl, hb⟩ := hv
  by_cases hlen : l.length = m.length
  · have q1 : ((l.length : Int) != (m.length : Int)) = false := by rw [hlen]; simp
    go_enter Try.func19, Try.ntmps19
    go_wp2
    go_loopw [13] (fun c wr => ∃ (k q : Nat), k ≤ l.length ∧ c = .int .i64 k ∧ wr = w.drewN q ∧ l.take k = m.take k) (fun c _ => l.length - (intOf c).toNat)
    case atStart => exact ⟨0, 0, Nat.zero_le _, rfl, rfl, rfl⟩
    case round =>
      obtain ⟨k, q, hk, rfl, rfl, hq⟩ := hrel
      have HQ := Lib.hid hq
      clear hq
      by_cases hlt : k < l.length
      · obtain ⟨x, hx⟩ : ∃ x, l[k]? = some x := ⟨_, List.getElem?_eq_getElem hlt⟩
        obtain ⟨y, hy⟩ : ∃ y, m[k]? = some y := ⟨_, List.getElem?_eq_getElem (by omega)⟩
        rcases ha with h0 | ⟨ab, ao, rfl, hca⟩
        · rw [h0] at hlt; exact absurd hlt (Nat.not_lt_zero _)
        rcases hb with h0 | ⟨bb, bo, rfl, hcb⟩
        · rw [hlen, h0] at hlt; exact absurd hlt (Nat.not_lt_zero _)
        have c1 := hca k x hx
        have c2 := hcb k y hy
        have hlm : k < m.length := by omega
        have k1 : (k : Int) < (l.length : Int) := by omega
        have k2 : (k : Int) < (m.length : Int) := by omega
        have HX := Lib.hid hx
        have HY := Lib.hid hy
        have HL := Lib.hid hlen
        clear hca hcb hx hy hlen
        by_cases hxy : x = y
        · subst hxy
          cases x
          all_goals
            go_wp2
            go_quiet (fail)
            go_wp2
            go_roundw
            case rel => exact ⟨k + 1, _, by omega, by go_num, rfl, by rw [List.take_add_one, List.take_add_one, HX.out, HY.out, HQ.out]⟩
            case measure => simp [intOf]; omega
        · have HN : Hid (decide (l = m) = false) := decN fun e => by
            have h1 := HX.out
            rw [e, HY.out] at h1
            exact hxy (Option.some.inj h1).symm
          cases x <;> cases y <;> first | (exact absurd rfl hxy) | skip
          all_goals
            go_wp2
            go_quiet (fail)
            go_wp2
            go_ret
            exact ⟨ret_bool HN.out.symm, _, World.drewN_drewN _ _ _⟩
      · have HN : Hid (decide (l = m) = true) := decY (by
          have hk' : k = l.length := by omega
          have h1 := HQ.out
          rw [List.take_of_length_le (by omega), List.take_of_length_le (by omega)] at h1
          exact h1)
        have k1 : ¬ (k : Int) < (l.length : Int) := by omega
        go_wp2
        go_ret
        exact ⟨ret_bool HN.out.symm, _, rfl⟩
  · have q1 : ((l.length : Int) != (m.length : Int)) = true := ibne_yes (by omega)
    have HN : Hid (decide (l = m) = false) := decN fun e => hlen (by rw [e])
    go_enter Try.func19, Try.ntmps19
    go_wp2
    go_ret
    exact ⟨ret_bool HN.out.symm, 0, rfl⟩
def boolsV (l : List Bool) : List Value := l.map .bool
theorem BoolsAt.of_own {w : World} {base : Nat} {v : Value} {l : List Bool} (h : w.ownsRow base 4 1 v l.length (boolsV l)) : BoolsAt w v l := by
  have h' := h
  rcases h.2 with ⟨rfl, h0⟩ | ⟨g, cap, cur, rfl, -⟩
  · exact ⟨none, 0, by rw [h0], .inl (List.length_eq_zero_iff.1 h0)⟩
  · refine ⟨_, cap, rfl, .inr ⟨g, 0, rfl, fun i x hx => ?_⟩⟩
    have := h'.cells rfl i (.bool x) (by unfold boolsV; rw [List.getElem?_map, hx]; rfl)
    rw [Addr.add_lit] at this; exact this
end Go.Proofs.Ytnfjbjmdempafaa
namespace Go.Proofs.Ytnfjbjmdempafaa
open Go.RowKit
end Go.Proofs.Ytnfjbjmdempafaa
