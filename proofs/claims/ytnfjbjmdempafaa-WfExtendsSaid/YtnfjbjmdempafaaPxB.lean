/- gram.sameNode, slices.EqualFunc on nodes, gram.Same. gram.First on a grammar in post-order. cmp.Compare at int, slices.BinarySearchFunc on rules, gram.Owner on  -/
import Derived.Test.YtnfjbjmdempafaaPxGramEq
namespace Go.Proofs.Ytnfjbjmdempafaa
open Go.RowKit
theorem one_new (w : World) (o : Obj) : Below w.heap.size w (w.alloc o) := (Below.refl _ _).alloc (Nat.le_refl _) _
theorem infoInt : (Try.prog.info? 3).map (fun i => (i.zero, i.size, i.bytes)) = some (some (.int .i64 0), 1, 8) := by kernel_rfl
theorem two_new (w : World) (o o' : Obj) : Below w.heap.size w ((w.alloc o).alloc o') := ((Below.refl _ _).alloc (Nat.le_refl _) _).alloc (by simp) _
end Go.Proofs.Ytnfjbjmdempafaa
namespace Go.Proofs.Ytnfjbjmdempafaa
open Go.RowKit
end Go.Proofs.Ytnfjbjmdempafaa
namespace Go.Proofs.Ytnfjbjmdempafaa
open Go.RowKit
/-- How two numbers compare. -/
def cmp3 (x y : Int) : Int := if x < y then -1 else if y < x then 1 else 0
theorem cmp3_lt {x y : Int} (h : x < y) : cmp3 x y = -1 := if_pos h
theorem cmp3_ge {x y : Int} (h : ¬ x < y) : cmp3 x y = if y < x then 1 else 0 := if_neg h
theorem nan_any (x : Int) (w : World) : Calls Try.prog 75 #[.int .i64 x] w fun e w' => e = .returned (.bool false) ∧ w = w' := by
  have q : (x != x) = false := by simp
  go_enter Try.func75, Try.ntmps75
  go_wp2
  go_ret
  exact ⟨rfl, rfl⟩
theorem cmp_any (x y : Int) (w : World) : Calls Try.prog 68 #[.int .i64 x, .int .i64 y] w fun e w' => e = .returned (.int .i64 (cmp3 x y)) ∧ w = w' := by
  have H : Hid (x < y → cmp3 x y = -1) := Lib.hid fun h => cmp3_lt h
  have H2 : Hid (¬ x < y → y < x → cmp3 x y = 1) := Lib.hid fun h h2 => by rw [cmp3_ge h, if_pos h2]
  have H3 : Hid (¬ x < y → ¬ y < x → cmp3 x y = 0) := Lib.hid fun h h2 => by rw [cmp3_ge h, if_neg h2]
  go_enter Try.func68, Try.ntmps68
  go_wp2_with (go_at_call 75; (with_reducible refine (nan_any _ _).mono ?_); rintro e w' ⟨rfl, rfl⟩)
  all_goals (go_ret; exact ⟨ret_int (by first | exact (H.out (by assumption)).symm | exact (H2.out (by omega) (by assumption)).symm | exact (H3.out (by omega) (by omega)).symm), rfl⟩)
theorem ownerC_any (s : ByteArray) (x y : Int) (w : World) : Calls Try.prog 67 #[.agg #[.string s, .int .i64 x], .int .i64 y] w fun e w' => e = .returned (.int .i64 (cmp3 x y)) ∧ Below w.heap.size w w' := by
  go_enter Try.func67, Try.ntmps67
  go_wp2_with (go_at_call 68; (with_reducible refine (cmp_any _ _ _).mono ?_); rintro e w' ⟨rfl, rfl⟩)
  go_ret
  exact ⟨rfl, one_new _ _⟩
/-- What the search returns. -/
def FoundIs (n : Nat) (w : World) (e : Ending) (w' : World) : Prop := (∃ b, e = .returned (.tuple #[.int .i64 (n : Int), .bool b])) ∧ Below w.heap.size w w'
theorem FoundIs.mk {n : Nat} {x : Int} {b : Bool} {w w' : World} (hx : x = n) (hb : Below w.heap.size w w') : FoundIs n w (.returned (.tuple #[.int .i64 x, .bool b])) w' := by subst hx; exact ⟨⟨b, rfl⟩, hb⟩
set_option maxHeartbeats 2000000 in
set_option maxRecDepth 100000 in
theorem search_any (v : Value) (rs : List PR) (x : Int) (w : World) (hs : rs.length ≤ 1000000) (hR : RulesIn w v rs) (b : Int) (hU : RootsUp b rs) :
    Calls Try.prog 66 #[v, .int .i64 x, .func (.func 67) #[] #[]] w (FoundIs (ownL rs x) w) := by
  have HO := Lib.hid (ownL_at rs b x hU)
  have hle := ownL_le rs x
  generalize ownL rs x = o at *
  obtain ⟨-, a, ca, rfl, ha⟩ := hR
  have HB0 := Lib.hid (Below.refl w.heap.size w)
  go_enter Try.func66, Try.ntmps66
  go_wp2
  go_loopw [9, 10] (fun c d wr => ∃ p q : Nat, p ≤ o ∧ o ≤ q ∧ q ≤ rs.length ∧ c = .int .i64 p ∧ d = .int .i64 q ∧ Below w.heap.size w wr) (fun c d _ => (intOf d).toNat - (intOf c).toNat)
  case atStart => exact ⟨0, rs.length, Nat.zero_le _, hle, Nat.le_refl _, rfl, rfl, HB0.out⟩
  case round =>
    obtain ⟨p, q, hp, hq, hqn, rfl, rfl, hbw⟩ := hrel
    by_cases hlt : p < q
    · have k1 : (p : Int) < (q : Int) := by omega
      obtain ⟨h, eh⟩ : ∃ h : Nat, ((p : Int) + (q : Int)) / 2 = (h : Int) := ⟨(p + q) / 2, by omega⟩
      have hh : p ≤ h ∧ h < q := by omega
      obtain ⟨r, hr⟩ : ∃ r, rs[h]? = some r := ⟨_, List.getElem?_eq_getElem (by omega)⟩
      rcases ha with h0 | ⟨rb, ro, rfl, hca⟩
      · rw [h0] at hr; simp at hr
      obtain ⟨c0, c1⟩ := (hca h r hr).kept hbw (Nat.le_refl _)
      have hiff := HO.out h r hr
      have lb := lt_of_cell c0
      have k2 : (h : Int) < (rs.length : Int) := by omega
      have HW := Lib.hid hbw
      have hsz := hbw.size
      clear hca hr hbw
      by_cases hx : r.root < x
      · have hC := cmp3_lt hx
        have hk : h < o := hiff.1 hx
        have HC := Lib.hid (fun W => ownerC_any r.name r.root x W)
        rw [hC] at HC
        clear hC hiff hx
        go_wp2_with (go_at_call 67; (with_reducible refine (HC.out _).mono ?_); rintro e w1 ⟨rfl, hb⟩; have HW1 := Lib.hid (HW.out.trans (hb.mono hsz)); clear hb)
        go_roundw
        case rel => exact ⟨h + 1, q, by omega, by omega, by omega, by go_num, rfl, HW1.out⟩
        case measure => simp [intOf]; omega
      · have hC := cmp3_ge hx
        have hk : o ≤ h := by
          rcases Nat.lt_or_ge h o with h1 | h1
          · exact absurd (hiff.2 h1) hx
          · exact h1
        have HC := Lib.hid (fun W => ownerC_any r.name r.root x W)
        obtain ⟨z, hz⟩ : ∃ z, cmp3 r.root x = z := ⟨_, rfl⟩
        have hz0 : ¬ z < 0 := by rw [← hz, hC]; split <;> omega
        rw [hz] at HC
        clear hC hiff hx hz
        go_wp2_with (go_at_call 67; (with_reducible refine (HC.out _).mono ?_); rintro e w1 ⟨rfl, hb⟩; have HW1 := Lib.hid (HW.out.trans (hb.mono hsz)); clear hb)
        go_roundw
        case rel => exact ⟨p, h, by omega, by omega, by omega, rfl, rfl, HW1.out⟩
        case measure => simp [intOf]; omega
    · have hpo : p = o := by omega
      have hqo : q = o := by omega
      subst hpo
      subst hqo
      have k1 : ¬ (q : Int) < (q : Int) := by omega
      by_cases hn : q < rs.length
      · obtain ⟨r, hr⟩ : ∃ r, rs[q]? = some r := ⟨_, List.getElem?_eq_getElem (by omega)⟩
        rcases ha with h0 | ⟨rb, ro, rfl, hca⟩
        · rw [h0] at hr; simp at hr
        obtain ⟨c0, c1⟩ := (hca q r hr).kept hbw (Nat.le_refl _)
        have lb := lt_of_cell c0
        have k2 : (q : Int) < (rs.length : Int) := by omega
        have HW := Lib.hid hbw
        have hsz := hbw.size
        have HC := Lib.hid (fun W => ownerC_any r.name r.root x W)
        clear hca hr hbw
        generalize cmp3 r.root x = z at HC
        go_wp2_with (go_at_call 67; (with_reducible refine (HC.out _).mono ?_); rintro e w1 ⟨rfl, hb⟩; have HW1 := Lib.hid (HW.out.trans (hb.mono hsz)); clear hb)
        go_ret2
        exact FoundIs.mk rfl HW1.out
      · have k2 : ¬ (q : Int) < (rs.length : Int) := by omega
        have HW := Lib.hid hbw
        clear hbw
        go_wp2
        go_ret2
        exact FoundIs.mk rfl HW.out
theorem owner_any (v : Value) (na : Option Addr) (nn nc : Nat) (rs : List PR) (x : Int) (w : World) (hs : rs.length ≤ 1000000) (hR : RulesIn w v rs) (b : Int) (hU : RootsUp b rs) :
    Calls Try.prog 51 #[.agg #[v, .slice na nn nc], .int .i64 x] w fun e w' => e = .returned (.int .i64 (ownL rs x : Int)) ∧ Below w.heap.size w w' := by
  have HS := Lib.hid (fun o : Obj => search_any v rs x (w.alloc o) hs (hR.kept (one_new w o) (Nat.le_refl _)) b hU)
  generalize ownL rs x = n at HS ⊢
  obtain ⟨-, a, ca, rfl, -⟩ := hR
  go_enter Try.func51, Try.ntmps51
  go_wp2_with (go_at_call 66; (with_reducible refine (HS.out _).mono ?_); rintro e w1 hf; obtain ⟨⟨bb, rfl⟩, hb⟩ := hf; have HW1 := Lib.hid ((one_new w _).trans (hb.mono (one_new w _).size)); clear hb)
  go_ret
  exact ⟨rfl, HW1.out⟩
end Go.Proofs.Ytnfjbjmdempafaa
