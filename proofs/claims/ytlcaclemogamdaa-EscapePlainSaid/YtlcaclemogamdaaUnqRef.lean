/- The contract of the reference's Unquote. -/
import Derived.Test.YtlcaclemogamdaaEscReads
import Derived.Test.YtlcaclemogamdaaUnqMath
namespace Go.Proofs.Ytlcaclemogamdaa
open Go.RowKit
theorem infoU8 : (Try.prog.info? 5).map (fun i => (i.zero, i.size, i.bytes)) = some (some (.int .u8 0), 1, 1) := by kernel_rfl
theorem grownBy_of_below {w w' : World} (h : Below w.heap.size w w') : w.grownBy w' none := ⟨h.os, h.tape, h.output, h.size, fun k hk _ => h.block k hk⟩
def u8s (l : List Nat) : List Value := l.map fun k : Nat => Value.int .u8 (k : Int)
theorem u8s_snoc (l : List Nat) (k : Nat) : u8s (l ++ [k]) = u8s l ++ [.int .u8 (k : Int)] := by unfold u8s; rw [List.map_append]; rfl
theorem ownsRow_grown {W w1 : World} {base : Nat} {e : TypeId} {size : Nat} {v : Value} {k : Nat} {xs : List Value} (h : W.ownsRow base e size v k xs) (hb : Below W.heap.size W w1) : w1.ownsRow base e size v k xs := by
  refine h.kept (grownBy_of_below hb) ?_
  cases hv : v.ownBlock with
  | none => exact .inl rfl
  | some b => exact .inr (by simp)
/-- What Unquote returns: the bytes, in memory of its own, and whether there are any. -/
def UnqIs (o : Option (List Nat)) (w : World) (e : Ending) (w' : World) : Prop :=
  ∃ v, e = .returned (.tuple #[v, .bool o.isSome]) ∧ w'.ownsRow w.heap.size 5 1 v (o.getD []).length (u8s (o.getD [])) ∧ Below w.heap.size w w'
theorem UnqIs.no {o : Option (List Nat)} {w w' : World} (h : o = none) (hb : Below w.heap.size w w') : UnqIs o w (.returned (.tuple #[.slice none 0 0, .bool false])) w' := by
  subst h; exact ⟨_, rfl, World.ownsRow_nil _ _ _ _, hb⟩
theorem UnqIs.yes {o : Option (List Nat)} {w w' : World} {v : Value} {acc : List Nat} (h : o = some acc) (hs : w'.ownsRow w.heap.size 5 1 v acc.length (u8s acc)) (hb : Below w.heap.size w w') : UnqIs o w (.returned (.tuple #[v, .bool true])) w' := by
  subst h; exact ⟨_, rfl, hs, hb⟩
theorem cell_one_new (w : World) (x : Value) (t : TypeId) : ∀ j u, [x][j]? = some u → (w.alloc (.cells #[x] t)).cell? ((⟨w.heap.size, 0, none⟩ : Addr).add j) = some u := by
  intro j u hj
  match j, hj with
  | 0, hj => simp at hj; subst hj; simp [Addr.add]
theorem unquoteL_short (l : List Nat) (h : ¬ 2 ≤ l.length) : unquoteL l = none := by unfold unquoteL; rw [if_neg (fun e => h e.1)]
theorem unquoteL_head (l : List Nat) (h : ¬ (l.headD 0 = 39 ∨ l.headD 0 = 34)) : unquoteL l = none := by unfold unquoteL; rw [if_neg (fun e => h e.2.1)]
set_option maxHeartbeats 2000000 in
set_option maxRecDepth 100000 in
theorem runquote_go (s : ByteArray) (w : World) (hz : s.size ≤ 1000000) (h0 : 0 < s.size) (hq : s[0].toNat = 39 ∨ s[0].toNat = 34) :
    Calls Try.prog 16 #[.string s] w (UnqIs (unquoteL (bts s)) w) := by
  obtain ⟨i0, hi0, hz0, hz1, hz2⟩ := info_parts infoU8
  have hall := unquote_ref (bts s) s[0].toNat ((bts s).drop 1) (bts_cons s h0) hq
  have HL := Lib.hid hall
  have HQ := Lib.hid hq
  have hE := isEmpty_no h0
  have hg : (s[0].toNat : Int) = 39 ∨ (s[0].toNat : Int) = 34 := by omega
  clear hall
  have hB0 := Lib.hid (Below.refl w.heap.size w)
  obtain ⟨q, hqd⟩ : ∃ q : Nat, s[0].toNat = q := ⟨_, rfl⟩
  have hq3 : ((q : Int) != 39 && (q : Int) != 34) = false := by
    rw [hqd] at hg
    rcases hg with h | h <;> rw [h] <;> rfl
  rw [hqd] at HL
  clear hg
  rcases hq with hq1 | hq1
  all_goals
    rw [hqd] at hq1
    subst hq1
    go_enter Try.func16, Try.ntmps16
    go_wp2
    go_loopw [4, 5] (fun v c wr => ∃ (k : Nat) (acc : List Nat), 1 ≤ k ∧ k ≤ s.size ∧ c = .int .i64 k ∧ wr.ownsRow w.heap.size 5 1 v acc.length (u8s acc) ∧ Below w.heap.size w wr ∧ acc.length ≤ k ∧ unquoteL (bts s) = (rq s[0].toNat ((bts s).drop k)).map (acc ++ ·)) (fun _ c _ => s.size - (intOf c).toNat)
    case atStart => exact ⟨1, [], Nat.le_refl _, h0, rfl, World.ownsRow_nil _ _ _ _, hB0.out, Nat.zero_le _, by rw [hqd, ← HL.out]; simp⟩
    case round =>
      obtain ⟨k, acc, hk1, hk, rfl, hs, hb, hac, hu⟩ := hrel
      have HU := Lib.hid hu
      clear hu
      have hsz := hb.size
      by_cases hlt : k < s.size
      · have hdk := bts_drop s k hlt
        have hlt' : (k : Int) < (s.size : Int) := by omega
        have h0' : (0 : Int) < (s.size : Int) := by omega
        by_cases hd : s[k].toNat = s[0].toNat
        · by_cases he : k + 1 = s.size
          · have hr : unquoteL (bts s) = some acc := by
              rw [HU.out, hdk, hd, List.drop_eq_nil_of_le (by rw [bts_length]; omega), rq_end]; simp
            have HR := Lib.hid hr
            have e1 : (((k : Int) + 1) != (s.size : Int)) = false := by rw [← he]; simp
            clear hr he hdk
            go_wp2_with fail
            go_quiet (fail)
            go_wp2
            go_ret2
            exact UnqIs.yes HR.out (ownsRow_grown hs (below_drewN (Below.refl _ _))) (below_drewN hb)
          · have hr : unquoteL (bts s) = none := by
              rw [HU.out, hdk, hd, rq_early (fun e => by have := congrArg List.length e; rw [List.length_drop, bts_length, List.length_nil] at this; omega)]; rfl
            have HR := Lib.hid hr
            have e1 : (((k : Int) + 1) != (s.size : Int)) = true := by rw [bne_iff_ne]; omega
            clear hr he hdk
            go_wp2_with fail
            go_quiet (fail)
            go_wp2
            go_ret2
            exact UnqIs.no HR.out (below_drewN hb)
        · have hdq : ((s[k].toNat : Int) != (s[0].toNat : Int)) = true := by rw [bne_iff_ne]; omega
          rw [hqd] at hdq
          cases hr : rd (bts s) (k : Int) with
          | none =>
            have hr' : unquoteL (bts s) = none := by
              rw [rd_nat, hdk] at hr
              rw [HU.out, hdk, rq_bad hr hd]; rfl
            have HR := Lib.hid hr'
            have HD := Lib.hid hr
            clear hr hr' hdk hd
            go_wp2_with fail
            go_quiet (fail)
            go_wp2_with (go_at_call 10; (with_reducible refine (rread_no s (k : Int) _ hz HD.out).mono ?_); rintro e w' ⟨rfl, m, rfl⟩)
            go_ret2
            exact UnqIs.no HR.out (below_drewN hb)
          | some x =>
            obtain ⟨c, n⟩ := x
            obtain ⟨p0, p1, p2, p3⟩ := rd_some hr
            have hr' : unquoteL (bts s) = (rq s[0].toNat ((bts s).drop (k + n))).map ((acc ++ [c]) ++ ·) := by
              rw [rd_nat, hdk] at hr
              rw [HU.out, hdk, rq_step hr hd, ← hdk, List.drop_drop, map_map_cons]
            have HR := Lib.hid hr'
            have HD := Lib.hid hr
            have q0 : ¬ (k : Int) + (n : Int) < 0 := by omega
            have q1 : (c : Int) ≤ 255 := by omega
            clear hr hr' hdk hd p3
            go_wp2_with fail
            go_quiet (fail)
            have hb1 := below_drewN (m := nq) hb
            have hs1 := ownsRow_grown hs (below_drewN (m := nq) (Below.refl _ _))
            go_wp2_with (first
              | (go_at_call 10; (with_reducible refine (rread_yes s (k : Int) c n _ hz HD.out).mono ?_); rintro e w' ⟨rfl, m, rfl⟩; replace hs1 := ownsRow_grown hs1 (below_drewN (m := m) (Below.refl _ _)); replace hb1 := below_drewN (m := m) hb1)
              | (at_builtin; refine wpList_append_own _ rfl _ _ 30 rfl w.heap.size 5 i0 (.int .u8 0) 1 1 Try.underlying30 hi0 hz0 hz1 hz2 rfl (by decide) _ _ _ rfl (hs1.alloc _) ⟨wr.heap.size, 0, none⟩ 1 1 [.int .u8 (c : Int)] rfl rfl (cell_one_new _ _ _) (by simp [Value.oneCell']) (by unfold maxLen; omega) (by omega) (by simp; omega) ?_; intro v' w2 hown' hgrow _))
            rw [World.drewN_drewN] at hb1 hs1
            have hb2 := (hb1.alloc (by simp; omega) (.cells #[_] 5)).grown hgrow (by simp; omega) (fun k e => (hs1.lt k e).1)
            rw [← u8s_snoc] at hown'
            exact ⟨⟨k + n, acc ++ [c], by omega, by omega, by go_num, by simpa using hown', hb2, by simp; omega, HR.out⟩, by simp [intOf]; omega⟩
      · have hr : unquoteL (bts s) = none := by
          rw [HU.out, List.drop_eq_nil_of_le (by rw [bts_length]; omega), rq_nil]; rfl
        have HR := Lib.hid hr
        have hlt' : decide ((k : Int) < (s.size : Int)) = false := by rw [decide_eq_false_iff_not]; omega
        have e1 : (((k : Int) + 1) != (s.size : Int)) = true := by rw [bne_iff_ne]; omega
        clear hr
        go_wp2_with fail
        go_quiet (fail)
        go_wp2
        go_ret2
        exact UnqIs.no HR.out (below_drewN hb)
theorem runquote_any (s : ByteArray) (w : World) (hz : s.size ≤ 1000000) :
    Calls Try.prog 16 #[.string s] w (UnqIs (unquoteL (bts s)) w) := by
  by_cases h0 : 0 < s.size
  · by_cases hq : s[0].toNat = 39 ∨ s[0].toNat = 34
    · exact runquote_go s w hz h0 hq
    · have hr := Lib.hid (unquoteL_head (bts s) (by rw [bts_cons s h0, List.headD_cons]; exact hq))
      have hE := isEmpty_no h0
      have h1 : ((s[0].toNat : Int) != 39) = true := by rw [bne_iff_ne]; omega
      have h2 : ((s[0].toNat : Int) != 34) = true := by rw [bne_iff_ne]; omega
      have HB := Lib.hid (Below.refl w.heap.size w)
      go_enter Try.func16, Try.ntmps16
      go_wp2
      go_ret2
      exact UnqIs.no hr.out HB.out
  · have hr := Lib.hid (unquoteL_short (bts s) (by rw [bts_length]; omega))
    have hE := isEmpty_yes h0
    have HB := Lib.hid (Below.refl w.heap.size w)
    go_enter Try.func16, Try.ntmps16
    go_wp2
    go_ret2
    exact UnqIs.no hr.out HB.out
end Go.Proofs.Ytlcaclemogamdaa
