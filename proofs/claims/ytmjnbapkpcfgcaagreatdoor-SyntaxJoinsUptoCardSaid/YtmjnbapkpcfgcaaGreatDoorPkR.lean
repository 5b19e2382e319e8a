/- The reference: primary. The reference: primary at an Open. -/
import Derived.Deep.Cut
import Derived.Test.YtmjnbapkpcfgcaaGreatDoorPkQ
namespace Go.Proofs.YtmjnbapkpcfgcaaGreatDoor
section
open Go.RowKit
/-- What a function of the reference does whose outcome is o. -/
def RO (R : RC) (rs : List (List Nat × Nat × Int)) (qs : List Value) (w : World) (o : PO) (e : Ending) (w' : World) : Prop := match o with
  | .ok a g => RRes R (lastI g) (RF R rs a g qs w.heap.size) w e w'
  | .bad a dp => RRes R 0 (RBad R rs a dp) w e w'
theorem RBad.low {R : RC} {rs : List (List Nat × Nat × Int)} {a : List Tok} {dp : Bool} {x : SV} {W : World} {b : Nat} (h : RBad R rs a dp x W) {cs : Array Value} (hB : Bl W b 65 cs) (o : Nat) (u : Value) : RBad R rs a dp x (W.setCell ⟨b, o, none⟩ u) :=
  ⟨⟨ownsRow_setCell_other h.1.1 (a := ⟨b, o, none⟩) (own_ne h.1.1 hB (by decide)) u, h.1.2⟩, h.2.1, h.2.2.1, h.2.2.2.1, h.2.2.2.2.1, ownsRow_setCell_other h.2.2.2.2.2 (a := ⟨b, o, none⟩) (own_ne h.2.2.2.2.2 hB (by decide)) u⟩
theorem RBad.low8 {R : RC} {rs : List (List Nat × Nat × Int)} {a : List Tok} {dp : Bool} {x : SV} {W : World} {b : Nat} (h : RBad R rs a dp x W) {cs : Array Value} (hB : Bl W b 65 cs) (v0 v1 v2 v3 v4 v5 v6 v7 : Value) :
    RBad R rs a dp x ((((((((W.setCell ⟨b, 0, none⟩ v0).setCell ⟨b, 1, none⟩ v1).setCell ⟨b, 2, none⟩ v2).setCell ⟨b, 3, none⟩ v3).setCell ⟨b, 4, none⟩ v4).setCell ⟨b, 5, none⟩ v5).setCell ⟨b, 6, none⟩ v6).setCell ⟨b, 7, none⟩ v7) :=
  (((((((h.low hB 0 v0).low (hB.put v0) 1 v1).low ((hB.put v0).put v1) 2 v2).low (((hB.put v0).put v1).put v2) 3 v3).low ((((hB.put v0).put v1).put v2).put v3) 4 v4).low (((((hB.put v0).put v1).put v2).put v3).put v4) 5 v5).low ((((((hB.put v0).put v1).put v2).put v3).put v4).put v5) 6 v6).low (((((((hB.put v0).put v1).put v2).put v3).put v4).put v5).put v6) 7 v7
section
variable {R : RC} {rs : List (List Nat × Nat × Int)} {ts : List Tok} {f : MF} {w W : World}
/-- wrong, where the state stands at ts. -/
theorem qwrong_at (la : Option Addr) (lc : Nat) (i : Int) (ra : Option Addr) (rn rc : Nat) (na : Option Addr) (nn nc : Nat) (ca : Option Addr) (cn cc : Nat) (bad : Int) (dp : Bool) (n : Nat) (hi : i = n) (hn : R.T.drop n = ts) (hne : ts ≠ []) (h : RFix R ⟨la, lc, i, ra, rn, rc, na, nn, nc, ca, cn, cc, bad, dp⟩ w) (hr : DRow R rs ⟨la, lc, i, ra, rn, rc, na, nn, nc, ca, cn, cc, bad, dp⟩ w) :
    Calls Tryz.prog 22 #[.agg #[.slice la R.T.length lc, .int .i64 i, .slice ra rn rc, .slice na nn nc, .slice ca cn cc, .int .i64 bad, .bool dp, .bool R.one]] w (RRes R 0 (RBad R rs ts dp) w) :=
  (qwrong_raw R ⟨la, lc, i, ra, rn, rc, na, nn, nc, ca, cn, cc, bad, dp⟩ w).mono fun _ _ k => ⟨la, lc, i, ra, rn, rc, na, nn, nc, ca, cn, cc, i, dp, k.1, k.2, ⟨(h.below k.2).1, h.2⟩, rfl, ⟨n, hi, hn⟩, hne, hr.1, ownsRow_grown hr.2 k.2⟩
end
section
variable {R : RC} {rs : List (List Nat × Nat × Int)} {f : MF} {qs : List Value} {w : World} (la : Option Addr) (lc : Nat) (i : Int) (ra : Option Addr) (rn rc : Nat) (na : Option Addr) (nn nc : Nat) (ca : Option Addr) (cn cc : Nat) (d : Nat) (k a : Nat) (tx : List Nat) (r : List (Nat × Nat)) (tl : List Tok)
set_option maxHeartbeats 4000000 in
set_option maxRecDepth 100000 in
theorem qprim_no (hk : k ≠ 1 ∧ k ≠ 9 ∧ k ≠ 11 ∧ k ≠ 12 ∧ k ≠ 13) (h : RSt R rs (⟨k, a, tx, r⟩ :: tl) f qs ⟨la, lc, i, ra, rn, rc, na, nn, nc, ca, cn, cc, -1, false⟩ w) :
    Calls Tryz.prog 49 #[.agg #[.slice la R.T.length lc, .int .i64 i, .slice ra rn rc, .slice na nn nc, .slice ca cn cc, .int .i64 (-1), .bool false, .bool R.one], .int .i64 (d : Int)] w (RRes R 0 (RBad R rs (⟨k, a, tx, r⟩ :: tl) false) w) := by
  have hrr := h.rrow
  obtain ⟨h1, -, -, ⟨n, hi, hn⟩, -⟩ := h
  obtain ⟨hlt, b, hla, ⟨t0, t1, t2, t3, t4, t5, t6⟩, hbl⟩ := h1.tok hn
  have hla : la = some ⟨b, 0, none⟩ := hla
  have hi : i = n := hi
  subst hla hi
  have HW := Lib.hid fun (W : World) (hb : Below w.heap.size w W) => qwrong_at _ lc _ ra rn rc na nn nc ca cn cc (-1) false n rfl hn (List.cons_ne_nil _ _) (h1.below hb) (hrr.below hb)
  have e1 : (kI k == 1) = false := ibeq_no (kI_ne hk.1)
  have e2 : (kI k == 9) = false := ibeq_no (kI_ne hk.2.1)
  have e3 : (kI k == 11) = false := ibeq_no (kI_ne hk.2.2.1)
  have e4 : (kI k == 12) = false := ibeq_no (kI_ne hk.2.2.2.1)
  have e5 : (kI k == 13) = false := ibeq_no (kI_ne hk.2.2.2.2)
  have k1 : (n : Int) < (R.T.length : Int) := by omega
  dsimp only at t0
  obtain ⟨kk, hkk⟩ : ∃ y, kI k = y := ⟨_, rfl⟩
  rw [hkk] at t0 e1 e2 e3 e4 e5
  clear h1 hn hk hkk hrr
  go_enter Tryz.func49, Tryz.ntmps49
  go_wp2_with (go_at_call 22; (with_reducible refine (HW.out _ ?_).mono ?_); (· repeat (first | exact Below.refl _ _ | refine Below.drew ?_ | refine below_alloc' ?_ rfl _)); rintro e w2 ⟨la2, lc2, i2, ra2, rn2, rc2, na2, nn2, nc2, ca2, cn2, cc2, bad2, dp2, rfl, hb, hq⟩; have hB2 : Bl w2 (w.heap.size + 1) 65 zeroV := Bl.below (by repeat (first | (refine Bl.new' ?_; simp; done) | refine Bl.drew ?_ | refine Bl.past ?_)) hb; have HBB : Hid (Below w.heap.size w w2) := Lib.hid (Below.trans (by repeat (first | exact Below.refl _ _ | refine Below.drew ?_ | refine below_alloc' ?_ rfl _)) (hb.mono (by simp; omega))); obtain ⟨⟨c0, c1, c2, c3, c4, c5, c6, c7⟩, cf, cl⟩ := cells8 hB2; have HB2 := Lib.hid hB2; have HQ := Lib.hid hq; clear hb hq hB2)
  clear c0 c1 c2 c3 c4 c5 c6 c7 cf
  obtain ⟨⟨c0, c1, c2, c3, c4, c5, c6, c7⟩, cf, -⟩ := cells8 (stored8 HB2.out (.slice la2 R.T.length lc2) (.int .i64 i2) (.slice ra2 rn2 rc2) (.slice na2 nn2 nc2) (.slice ca2 cn2 cc2) (.int .i64 bad2) (.bool dp2) (.bool R.one))
  refine bodyPost_ret (v := .tuple #[.agg #[.slice la2 R.T.length lc2, .int .i64 i2, .slice ra2 rn2 rc2, .slice na2 nn2 nc2, .slice ca2 cn2 cc2, .int .i64 bad2, .bool dp2, .bool R.one], .int .i64 0]) (by simp [results, Tryz.results49, go_sem, c0, c1, c2, c3, c4, c5, c6, c7]) rfl ?_
  exact ⟨la2, lc2, i2, ra2, rn2, rc2, na2, nn2, nc2, ca2, cn2, cc2, bad2, dp2, rfl, below8 HBB.out (by omega) _ _ _ _ _ _ _ _, RBad.low8 HQ.out HB2.out _ _ _ _ _ _ _ _⟩
set_option maxHeartbeats 4000000 in
set_option maxRecDepth 100000 in
theorem qprim_cls (hE : Endy (⟨13, a, tx, r⟩ :: tl)) (hm : f.nodes.length ≤ 100000000) (hbase : R.base ≤ w.heap.size) (h : RSt R rs (⟨13, a, tx, r⟩ :: tl) f qs ⟨la, lc, i, ra, rn, rc, na, nn, nc, ca, cn, cc, -1, false⟩ w) :
    Calls Tryz.prog 49 #[.agg #[.slice la R.T.length lc, .int .i64 i, .slice ra rn rc, .slice na nn nc, .slice ca cn cc, .int .i64 (-1), .bool false, .bool R.one], .int .i64 (d : Int)] w (RRes R (lastI (addN f (clsN (inRs r)))) (RF R rs tl (addN f (clsN (inRs r))) qs w.heap.size) w) := by
  have h0 := h
  obtain ⟨h1, -, -, ⟨n, hi, hn⟩, -⟩ := h
  obtain ⟨hlt, b, hla, ⟨t0, t1, t2, t3, t4, t5, t6⟩, hbl⟩ := h1.tok hn
  have hla : la = some ⟨b, 0, none⟩ := hla
  have hi : i = n := hi
  subst hla hi
  have hTl := h1.2
  have k1 : (n : Int) < (R.T.length : Int) := by omega
  have v1 : IntKind.i64.wrap ((n : Int) + 1) = (n : Int) + 1 := IntWalk.i64_in _ (by omega)
  have htl := hE.tail (show (13 : Nat) ≠ 0 by decide) (show (13 : Nat) ≠ 99 by decide)
  have hst : RSt R rs tl f qs ⟨some ⟨b, 0, none⟩, lc, (n : Int) + 1, ra, rn, rc, na, nn, nc, ca, cn, cc, -1, false⟩ w := by
    obtain ⟨h1, h2, h3, -, -, h6⟩ := h0
    exact ⟨h1, h2, h3, ⟨n + 1, by show (n : Int) + 1 = _; omega, by rw [← List.tail_drop, hn]; rfl⟩, htl.ne, h6⟩
  have HA := Lib.hid fun (W : World) (hb : Below w.heap.size w W) => (show Calls Tryz.prog 50 #[.agg #[.slice (some ⟨b, 0, none⟩) R.T.length lc, .int .i64 ((n : Int) + 1), .slice ra rn rc, .slice na nn nc, .slice ca cn cc, .int .i64 (-1), .bool false, .bool R.one], .agg #[.int .i64 1, .slice none 0 0, .int .i64 0, .int .u64 (setW (inRs r) 0), .int .u64 (setW (inRs r) 1), .int .u64 (setW (inRs r) 2), .int .u64 (setW (inRs r) 3)]] W (RRes R (lastI (addN f (clsN (inRs r)))) (RF R rs tl (addN f (clsN (inRs r))) qs w.heap.size) W) from
    (qadd_st (hst.below hb) (clsN (inRs r)) none 0 (World.ownsRow_nil _ _ _ _) hm (Nat.le_trans hbase hb.size)).mono fun e w' k => RRes.of k.1 (by
      obtain ⟨x', k1, k2⟩ := k.2
      exact ⟨x', k1, [.slice none 0 0], k2, fun q hq b hb => by
        obtain rfl := List.mem_singleton.1 hq
        cases hb⟩))
  have e0 : kI 13 = 13 := rfl
  dsimp only at t0
  rw [e0] at t0
  clear h1 h0 hst htl hn e0
  go_enter Tryz.func49, Tryz.ntmps49
  go_wp2_with (go_at_call 50; (with_reducible refine (HA.out _ ?_).mono ?_); (· repeat (first | exact Below.refl _ _ | refine Below.drew ?_ | refine below_alloc' ?_ rfl _)); rintro e w2 ⟨la2, lc2, i2, ra2, rn2, rc2, na2, nn2, nc2, ca2, cn2, cc2, bad2, dp2, rfl, hb, hq⟩; have hB2 : Bl w2 (w.heap.size + 1) 65 zeroV := Bl.below (by repeat (first | (refine Bl.new' ?_; simp; done) | refine Bl.drew ?_ | refine Bl.past ?_)) hb; have HBB : Hid (Below w.heap.size w w2) := Lib.hid (Below.trans (by repeat (first | exact Below.refl _ _ | refine Below.drew ?_ | refine below_alloc' ?_ rfl _)) (hb.mono (by simp; omega))); obtain ⟨⟨c0, c1, c2, c3, c4, c5, c6, c7⟩, cf, cl⟩ := cells8 hB2; have HB2 := Lib.hid hB2; have HQ := Lib.hid hq; clear hb hq hB2)
  clear c0 c1 c2 c3 c4 c5 c6 c7 cf
  obtain ⟨⟨c0, c1, c2, c3, c4, c5, c6, c7⟩, cf, -⟩ := cells8 (stored8 HB2.out (.slice la2 R.T.length lc2) (.int .i64 i2) (.slice ra2 rn2 rc2) (.slice na2 nn2 nc2) (.slice ca2 cn2 cc2) (.int .i64 bad2) (.bool dp2) (.bool R.one))
  refine bodyPost_ret (v := .tuple #[.agg #[.slice la2 R.T.length lc2, .int .i64 i2, .slice ra2 rn2 rc2, .slice na2 nn2 nc2, .slice ca2 cn2 cc2, .int .i64 bad2, .bool dp2, .bool R.one], .int .i64 (lastI (addN f (clsN (inRs r))))]) (by simp [results, Tryz.results49, go_sem, c0, c1, c2, c3, c4, c5, c6, c7]) rfl ?_
  exact ⟨la2, lc2, i2, ra2, rn2, rc2, na2, nn2, nc2, ca2, cn2, cc2, bad2, dp2, rfl, below8 HBB.out (by omega) _ _ _ _ _ _ _ _, RF.low8 HQ.out HB2.out _ _ _ _ _ _ _ _⟩
set_option maxHeartbeats 4000000 in
set_option maxRecDepth 100000 in
theorem qprim_dot (hE : Endy (⟨11, a, tx, r⟩ :: tl)) (hm : f.nodes.length ≤ 100000000) (hbase : R.base ≤ w.heap.size) (h : RSt R rs (⟨11, a, tx, r⟩ :: tl) f qs ⟨la, lc, i, ra, rn, rc, na, nn, nc, ca, cn, cc, -1, false⟩ w) :
    Calls Tryz.prog 49 #[.agg #[.slice la R.T.length lc, .int .i64 i, .slice ra rn rc, .slice na nn nc, .slice ca cn cc, .int .i64 (-1), .bool false, .bool R.one], .int .i64 (d : Int)] w (RRes R (lastI (addN f (clsN (rin 0 255)))) (RF R rs tl (addN f (clsN (rin 0 255))) qs w.heap.size) w) := by
  have h0 := h
  obtain ⟨h1, -, -, ⟨n, hi, hn⟩, -⟩ := h
  obtain ⟨hlt, b, hla, ⟨t0, t1, t2, t3, t4, t5, t6⟩, hbl⟩ := h1.tok hn
  have hla : la = some ⟨b, 0, none⟩ := hla
  have hi : i = n := hi
  subst hla hi
  have hTl := h1.2
  have k1 : (n : Int) < (R.T.length : Int) := by omega
  have v1 : IntKind.i64.wrap ((n : Int) + 1) = (n : Int) + 1 := IntWalk.i64_in _ (by omega)
  have htl := hE.tail (show (11 : Nat) ≠ 0 by decide) (show (11 : Nat) ≠ 99 by decide)
  have hst : RSt R rs tl f qs ⟨some ⟨b, 0, none⟩, lc, (n : Int) + 1, ra, rn, rc, na, nn, nc, ca, cn, cc, -1, false⟩ w := by
    obtain ⟨h1, h2, h3, -, -, h6⟩ := h0
    exact ⟨h1, h2, h3, ⟨n + 1, by show (n : Int) + 1 = _; omega, by rw [← List.tail_drop, hn]; rfl⟩, htl.ne, h6⟩
  have HA := Lib.hid fun (W : World) (hb : Below w.heap.size w W) => (show Calls Tryz.prog 50 #[.agg #[.slice (some ⟨b, 0, none⟩) R.T.length lc, .int .i64 ((n : Int) + 1), .slice ra rn rc, .slice na nn nc, .slice ca cn cc, .int .i64 (-1), .bool false, .bool R.one], .agg #[.int .i64 1, .slice none 0 0, .int .i64 0, .int .u64 (setW (rin 0 255) 0), .int .u64 (setW (rin 0 255) 1), .int .u64 (setW (rin 0 255) 2), .int .u64 (setW (rin 0 255) 3)]] W (RRes R (lastI (addN f (clsN (rin 0 255)))) (RF R rs tl (addN f (clsN (rin 0 255))) qs w.heap.size) W) from
    (qadd_st (hst.below hb) (clsN (rin 0 255)) none 0 (World.ownsRow_nil _ _ _ _) hm (Nat.le_trans hbase hb.size)).mono fun e w' k => RRes.of k.1 (by
      obtain ⟨x', k1, k2⟩ := k.2
      exact ⟨x', k1, [.slice none 0 0], k2, fun q hq b hb => by
        obtain rfl := List.mem_singleton.1 hq
        cases hb⟩))
  have e0 : kI 11 = 11 := rfl
  dsimp only at t0
  rw [e0] at t0
  clear h1 h0 hst htl hn e0
  go_enter Tryz.func49, Tryz.ntmps49
  go_upto_region 23 with fail
  go_region_with (first
    | (go_at_call 62; (with_reducible refine (rrange_any 0 255 _).mono ?_); rintro e w1 ⟨rfl, hb1⟩; have HB1 : Hid (Below w.heap.size w w1) := Lib.hid (Below.trans (by repeat (first | exact Below.refl _ _ | refine Below.drew ?_ | refine below_alloc' ?_ rfl _)) (hb1.mono (by simp; omega))); have hO1 : Bl w1 (w.heap.size + 1) 65 zeroV := Bl.below (by repeat (first | (refine Bl.new' ?_; simp; done) | refine Bl.drew ?_ | refine Bl.past ?_)) hb1; have hX1 : Bl w1 w.heap.size 65 #[.slice (some ⟨b, 0, none⟩) R.T.length lc, .int .i64 ((n : Int) + 1), .slice ra rn rc, .slice na nn nc, .slice ca cn cc, .int .i64 (-1), .bool false, .bool R.one] := Bl.below (by repeat (first | (refine Bl.new' ?_; simp; done) | refine Bl.drew ?_ | refine Bl.past ?_)) hb1; obtain ⟨⟨x0, x1, x2, x3, x4, x5, x6, x7⟩, -, xl⟩ := cells8 hX1; have HO1 := Lib.hid hO1; clear hb1 hO1 hX1)
    | (go_at_call 50; (refine (HA.out _ (by first | exact HB1.out | exact HB1.out.drew)).mono ?_); rintro e w2 ⟨la2, lc2, i2, ra2, rn2, rc2, na2, nn2, nc2, ca2, cn2, cc2, bad2, dp2, rfl, hb, hq⟩; have hB2 : Bl w2 (w.heap.size + 1) 65 zeroV := HO1.out.below hb; have HBB : Hid (Below w.heap.size w w2) := Lib.hid (HB1.out.trans (hb.mono HB1.out.size)); obtain ⟨⟨c0, c1, c2, c3, c4, c5, c6, c7⟩, cf, cl⟩ := cells8 hB2; have HB2 := Lib.hid hB2; have HQ := Lib.hid hq; clear hb hq hB2))
  all_goals
    go_wp2
    clear c0 c1 c2 c3 c4 c5 c6 c7 cf
    obtain ⟨⟨c0, c1, c2, c3, c4, c5, c6, c7⟩, cf, -⟩ := cells8 (stored8 HB2.out (.slice la2 R.T.length lc2) (.int .i64 i2) (.slice ra2 rn2 rc2) (.slice na2 nn2 nc2) (.slice ca2 cn2 cc2) (.int .i64 bad2) (.bool dp2) (.bool R.one))
    refine bodyPost_ret (v := .tuple #[.agg #[.slice la2 R.T.length lc2, .int .i64 i2, .slice ra2 rn2 rc2, .slice na2 nn2 nc2, .slice ca2 cn2 cc2, .int .i64 bad2, .bool dp2, .bool R.one], .int .i64 (lastI (addN f (clsN (rin 0 255))))]) (by simp [results, Tryz.results49, go_sem, c0, c1, c2, c3, c4, c5, c6, c7]) rfl ?_
    exact ⟨la2, lc2, i2, ra2, rn2, rc2, na2, nn2, nc2, ca2, cn2, cc2, bad2, dp2, rfl, below8 HBB.out (by omega) _ _ _ _ _ _ _ _, RF.low8 HQ.out HB2.out _ _ _ _ _ _ _ _⟩
end
end
end Go.Proofs.YtmjnbapkpcfgcaaGreatDoor
namespace Go.Proofs.YtmjnbapkpcfgcaaGreatDoor
section
open Go.RowKit
section
variable {R : RC} {rs : List (List Nat × Nat × Int)} {f : MF} {qs : List Value} {w : World} (la : Option Addr) (lc : Nat) (i : Int) (ra : Option Addr) (rn rc : Nat) (na : Option Addr) (nn nc : Nat) (ca : Option Addr) (cn cc : Nat) (d : Nat) (k a : Nat) (tx : List Nat) (r : List (Nat × Nat)) (tl : List Tok)
set_option maxHeartbeats 4000000 in
set_option maxRecDepth 100000 in
theorem qprim_deep (h : RSt R rs (⟨9, a, tx, r⟩ :: tl) f qs ⟨la, lc, i, ra, rn, rc, na, nn, nc, ca, cn, cc, -1, false⟩ w) :
    Calls Tryz.prog 49 #[.agg #[.slice la R.T.length lc, .int .i64 i, .slice ra rn rc, .slice na nn nc, .slice ca cn cc, .int .i64 (-1), .bool false, .bool R.one], .int .i64 200] w (RRes R 0 (RBad R rs (⟨9, a, tx, r⟩ :: tl) true) w) := by
  have hrr := h.rrow
  obtain ⟨h1, -, -, ⟨n, hi, hn⟩, -⟩ := h
  obtain ⟨hlt, b, hla, ⟨t0, t1, t2, t3, t4, t5, t6⟩, hbl⟩ := h1.tok hn
  have hla : la = some ⟨b, 0, none⟩ := hla
  have hi : i = n := hi
  subst hla hi
  have hTl := h1.2
  have k1 : (n : Int) < (R.T.length : Int) := by omega
  have HW := Lib.hid fun (W : World) (hb : Below w.heap.size w W) => qwrong_at (some ⟨b, 0, none⟩) lc (n : Int) ra rn rc na nn nc ca cn cc (-1) true n rfl hn (List.cons_ne_nil _ _) (⟨(h1.below hb).1, h1.2⟩ : RFix R ⟨some ⟨b, 0, none⟩, lc, (n : Int), ra, rn, rc, na, nn, nc, ca, cn, cc, -1, true⟩ W) ⟨hrr.1, (hrr.below hb).2⟩
  have e0 : kI 9 = 9 := rfl
  dsimp only at t0
  rw [e0] at t0
  clear h1 hn e0 hTl hrr
  go_enter Tryz.func49, Tryz.ntmps49
  go_wp2_with (go_at_call 22; (with_reducible refine (HW.out _ ?_).mono ?_); (· repeat (first | exact Below.refl _ _ | refine Below.drew ?_ | refine below_alloc' ?_ rfl _)); rintro e w2 ⟨la2, lc2, i2, ra2, rn2, rc2, na2, nn2, nc2, ca2, cn2, cc2, bad2, dp2, rfl, hb, hq⟩; have hB2 : Bl w2 (w.heap.size + 1) 65 zeroV := Bl.below (by repeat (first | (refine Bl.new' ?_; simp; done) | refine Bl.drew ?_ | refine Bl.past ?_)) hb; have HBB : Hid (Below w.heap.size w w2) := Lib.hid (Below.trans (by repeat (first | exact Below.refl _ _ | refine Below.drew ?_ | refine below_alloc' ?_ rfl _)) (hb.mono (by simp; omega))); obtain ⟨⟨c0, c1, c2, c3, c4, c5, c6, c7⟩, cf, cl⟩ := cells8 hB2; have HB2 := Lib.hid hB2; have HQ := Lib.hid hq; clear hb hq hB2)
  clear c0 c1 c2 c3 c4 c5 c6 c7 cf
  obtain ⟨⟨c0, c1, c2, c3, c4, c5, c6, c7⟩, cf, -⟩ := cells8 (stored8 HB2.out (.slice la2 R.T.length lc2) (.int .i64 i2) (.slice ra2 rn2 rc2) (.slice na2 nn2 nc2) (.slice ca2 cn2 cc2) (.int .i64 bad2) (.bool dp2) (.bool R.one))
  refine bodyPost_ret (v := .tuple #[.agg #[.slice la2 R.T.length lc2, .int .i64 i2, .slice ra2 rn2 rc2, .slice na2 nn2 nc2, .slice ca2 cn2 cc2, .int .i64 bad2, .bool dp2, .bool R.one], .int .i64 0]) (by simp [results, Tryz.results49, go_sem, c0, c1, c2, c3, c4, c5, c6, c7]) rfl ?_
  exact ⟨la2, lc2, i2, ra2, rn2, rc2, na2, nn2, nc2, ca2, cn2, cc2, bad2, dp2, rfl, below8 HBB.out (by omega) _ _ _ _ _ _ _ _, RBad.low8 HQ.out HB2.out _ _ _ _ _ _ _ _⟩
set_option maxHeartbeats 4000000 in
set_option maxRecDepth 100000 in
theorem qprim_open_bad (c : List Tok) (dp : Bool) (hd : d < 200) (hE : Endy (⟨9, a, tx, r⟩ :: tl)) (h : RSt R rs (⟨9, a, tx, r⟩ :: tl) f qs ⟨la, lc, i, ra, rn, rc, na, nn, nc, ca, cn, cc, -1, false⟩ w)
    (hC : ∀ (x : SV) (W : World), Below w.heap.size w W → RSt R rs tl f qs x W → Calls Tryz.prog 23 #[x.v R, .int .i64 ((d : Int) + 1)] W (RRes R 0 (RBad R rs c dp) W)) :
    Calls Tryz.prog 49 #[.agg #[.slice la R.T.length lc, .int .i64 i, .slice ra rn rc, .slice na nn nc, .slice ca cn cc, .int .i64 (-1), .bool false, .bool R.one], .int .i64 (d : Int)] w (RRes R 0 (RBad R rs c dp) w) := by
  have h0 := h
  obtain ⟨h1, -, -, ⟨n, hi, hn⟩, -⟩ := h
  obtain ⟨hlt, b, hla, ⟨t0, t1, t2, t3, t4, t5, t6⟩, hbl⟩ := h1.tok hn
  have hla : la = some ⟨b, 0, none⟩ := hla
  have hi : i = n := hi
  subst hla hi
  have hTl := h1.2
  have k1 : (n : Int) < (R.T.length : Int) := by omega
  have v1 : IntKind.i64.wrap ((n : Int) + 1) = (n : Int) + 1 := IntWalk.i64_in _ (by omega)
  have htl := hE.tail (show (9 : Nat) ≠ 0 by decide) (show (9 : Nat) ≠ 99 by decide)
  have hst : RSt R rs tl f qs ⟨some ⟨b, 0, none⟩, lc, (n : Int) + 1, ra, rn, rc, na, nn, nc, ca, cn, cc, -1, false⟩ w := by
    obtain ⟨h1, h2, h3, -, -, h6⟩ := h0
    exact ⟨h1, h2, h3, ⟨n + 1, by show (n : Int) + 1 = _; omega, by rw [← List.tail_drop, hn]; rfl⟩, htl.ne, h6⟩
  have HE := Lib.hid fun (W : World) (hb : Below w.heap.size w W) => (show Calls Tryz.prog 23 #[.agg #[.slice (some ⟨b, 0, none⟩) R.T.length lc, .int .i64 ((n : Int) + 1), .slice ra rn rc, .slice na nn nc, .slice ca cn cc, .int .i64 (-1), .bool false, .bool R.one], .int .i64 ((d : Int) + 1)] W (RRes R 0 (RBad R rs c dp) W) from hC ⟨some ⟨b, 0, none⟩, lc, (n : Int) + 1, ra, rn, rc, na, nn, nc, ca, cn, cc, -1, false⟩ W hb (hst.below hb))
  have e0 : kI 9 = 9 := rfl
  dsimp only at t0
  rw [e0] at t0
  have e1 : ((d : Int) == 200) = false := beq_no (by omega)
  have v2 : IntKind.i64.wrap ((d : Int) + 1) = (d : Int) + 1 := IntWalk.i64_in _ (by omega)
  clear h1 h0 hst htl hn e0 hC hE hd
  go_enter Tryz.func49, Tryz.ntmps49
  go_upto_region 15 with (go_at_call 23; (with_reducible refine (HE.out _ ?_).mono ?_); (· repeat (first | exact Below.refl _ _ | refine Below.drew ?_ | refine below_alloc' ?_ rfl _)); rintro e w2 ⟨la2, lc2, i2, ra2, rn2, rc2, na2, nn2, nc2, ca2, cn2, cc2, bad2, dp2, rfl, hb, hq⟩; obtain ⟨m, hm, -⟩ := hq.2.2.1; have hm : bad2 = (m : Int) := hm; subst hm; have hB2 : Bl w2 (w.heap.size + 1) 65 zeroV := Bl.below (by repeat (first | (refine Bl.new' ?_; simp; done) | refine Bl.drew ?_ | refine Bl.past ?_)) hb; have HBB : Hid (Below w.heap.size w w2) := Lib.hid (Below.trans (by repeat (first | exact Below.refl _ _ | refine Below.drew ?_ | refine below_alloc' ?_ rfl _)) (hb.mono (by simp; omega))); obtain ⟨⟨c0, c1, c2, c3, c4, c5, c6, c7⟩, cf, cl⟩ := cells8 hB2; have HB2 := Lib.hid hB2; have HQ := Lib.hid hq; clear hb hq hB2)
  have hx3 := Bl.new w2 65 #[.slice la2 R.T.length lc2, .int .i64 i2, .slice ra2 rn2 rc2, .slice na2 nn2 nc2, .slice ca2 cn2 cc2, .int .i64 m, .bool dp2, .bool R.one]
  have ho3 := HB2.out.below (one_new w2 (.cells #[.slice la2 R.T.length lc2, .int .i64 i2, .slice ra2 rn2 rc2, .slice na2 nn2 nc2, .slice ca2 cn2 cc2, .int .i64 m, .bool dp2, .bool R.one] 65))
  have hq3 := HQ.out.below (one_new w2 (.cells #[.slice la2 R.T.length lc2, .int .i64 i2, .slice ra2 rn2 rc2, .slice na2 nn2 nc2, .slice ca2 cn2 cc2, .int .i64 m, .bool dp2, .bool R.one] 65))
  have hb3 := HBB.out.trans ((one_new w2 (.cells #[.slice la2 R.T.length lc2, .int .i64 i2, .slice ra2 rn2 rc2, .slice na2 nn2 nc2, .slice ca2 cn2 cc2, .int .i64 m, .bool dp2, .bool R.one] 65)).mono HBB.out.size)
  have hs3 : w2.heap.size < (w2.alloc (.cells #[.slice la2 R.T.length lc2, .int .i64 i2, .slice ra2 rn2 rc2, .slice na2 nn2 nc2, .slice ca2 cn2 cc2, .int .i64 m, .bool dp2, .bool R.one] 65)).heap.size := by simp
  obtain ⟨W3, hW3⟩ : ∃ W3, w2.alloc (.cells #[.slice la2 R.T.length lc2, .int .i64 i2, .slice ra2 rn2 rc2, .slice na2 nn2 nc2, .slice ca2 cn2 cc2, .int .i64 m, .bool dp2, .bool R.one] 65) = W3 := ⟨_, rfl⟩
  rw [hW3] at hx3 ho3 hq3 hb3 hs3 ⊢
  clear c0 c1 c2 c3 c4 c5 c6 c7 cf hW3
  obtain ⟨⟨x0, x1, x2, x3, x4, x5, x6, x7⟩, xf, xl⟩ := cells8 hx3
  obtain ⟨⟨c0, c1, c2, c3, c4, c5, c6, c7⟩, cf, ol3⟩ := cells8 ho3
  obtain ⟨B3, hB3⟩ : ∃ B3, w2.heap.size = B3 := ⟨_, rfl⟩
  rw [hB3] at hx3 x0 x1 x2 x3 x4 x5 x6 x7 xf xl hs3 cl ⊢
  have HX3 := Lib.hid hx3
  have HO3 := Lib.hid ho3
  have HQ3 := Lib.hid hq3
  have HB3 := Lib.hid hb3
  have hne3 : ¬ w.heap.size + 1 = B3 := by omega
  have hne4 : ¬ B3 = w.heap.size + 1 := by omega
  clear hx3 ho3 hq3 hb3 hB3 HB2 HQ HBB
  have kb : (0 : Int) ≤ (m : Int) := by omega
  go_wp2
  clear c0 c1 c2 c3 c4 c5 c6 c7 cf
  obtain ⟨⟨c0, c1, c2, c3, c4, c5, c6, c7⟩, cf, -⟩ := cells8 (stored8 HO3.out (.slice la2 R.T.length lc2) (.int .i64 i2) (.slice ra2 rn2 rc2) (.slice na2 nn2 nc2) (.slice ca2 cn2 cc2) (.int .i64 m) (.bool dp2) (.bool R.one))
  refine bodyPost_ret (v := .tuple #[.agg #[.slice la2 R.T.length lc2, .int .i64 i2, .slice ra2 rn2 rc2, .slice na2 nn2 nc2, .slice ca2 cn2 cc2, .int .i64 m, .bool dp2, .bool R.one], .int .i64 0]) (by simp [results, Tryz.results49, go_sem, c0, c1, c2, c3, c4, c5, c6, c7]) rfl ?_
  exact ⟨la2, lc2, i2, ra2, rn2, rc2, na2, nn2, nc2, ca2, cn2, cc2, m, dp2, rfl, below8 HB3.out (by omega) _ _ _ _ _ _ _ _, RBad.low8 HQ3.out HO3.out _ _ _ _ _ _ _ _⟩
set_option maxHeartbeats 4000000 in
set_option maxRecDepth 100000 in
theorem qprim_open_no (c : List Tok) (g : MF) (hEc : Endy c) (hc : kd c ≠ 10) (hd : d < 200) (hE : Endy (⟨9, a, tx, r⟩ :: tl)) (h : RSt R rs (⟨9, a, tx, r⟩ :: tl) f qs ⟨la, lc, i, ra, rn, rc, na, nn, nc, ca, cn, cc, -1, false⟩ w)
    (hC : ∀ (x : SV) (W : World), Below w.heap.size w W → RSt R rs tl f qs x W → Calls Tryz.prog 23 #[x.v R, .int .i64 ((d : Int) + 1)] W (RRes R (lastI g) (RF R rs c g qs W.heap.size) W)) :
    Calls Tryz.prog 49 #[.agg #[.slice la R.T.length lc, .int .i64 i, .slice ra rn rc, .slice na nn nc, .slice ca cn cc, .int .i64 (-1), .bool false, .bool R.one], .int .i64 (d : Int)] w (RRes R 0 (RBad R rs c false) w) := by
  have h0 := h
  obtain ⟨h1, -, -, ⟨n, hi, hn⟩, -⟩ := h
  obtain ⟨hlt, b, hla, ⟨t0, t1, t2, t3, t4, t5, t6⟩, hbl⟩ := h1.tok hn
  have hla : la = some ⟨b, 0, none⟩ := hla
  have hi : i = n := hi
  subst hla hi
  have hTl := h1.2
  have k1 : (n : Int) < (R.T.length : Int) := by omega
  have v1 : IntKind.i64.wrap ((n : Int) + 1) = (n : Int) + 1 := IntWalk.i64_in _ (by omega)
  have htl := hE.tail (show (9 : Nat) ≠ 0 by decide) (show (9 : Nat) ≠ 99 by decide)
  have hst : RSt R rs tl f qs ⟨some ⟨b, 0, none⟩, lc, (n : Int) + 1, ra, rn, rc, na, nn, nc, ca, cn, cc, -1, false⟩ w := by
    obtain ⟨h1, h2, h3, -, -, h6⟩ := h0
    exact ⟨h1, h2, h3, ⟨n + 1, by show (n : Int) + 1 = _; omega, by rw [← List.tail_drop, hn]; rfl⟩, htl.ne, h6⟩
  have HE := Lib.hid fun (W : World) (hb : Below w.heap.size w W) => (show Calls Tryz.prog 23 #[.agg #[.slice (some ⟨b, 0, none⟩) R.T.length lc, .int .i64 ((n : Int) + 1), .slice ra rn rc, .slice na nn nc, .slice ca cn cc, .int .i64 (-1), .bool false, .bool R.one], .int .i64 ((d : Int) + 1)] W (RRes R (lastI g) (RF R rs c g qs w.heap.size) W) from (hC ⟨some ⟨b, 0, none⟩, lc, (n : Int) + 1, ra, rn, rc, na, nn, nc, ca, cn, cc, -1, false⟩ W hb (hst.below hb)).mono fun e w' k => k.mono fun x W2 q => q.lo hb.size)
  have e0 : kI 9 = 9 := rfl
  dsimp only at t0
  rw [e0] at t0
  have e1 : ((d : Int) == 200) = false := beq_no (by omega)
  have v2 : IntKind.i64.wrap ((d : Int) + 1) = (d : Int) + 1 := IntWalk.i64_in _ (by omega)
  clear h1 h0 hst htl hn e0 hC hE hd
  go_enter Tryz.func49, Tryz.ntmps49
  go_upto_region 15 with (go_at_call 23; (with_reducible refine (HE.out _ ?_).mono ?_); (· repeat (first | exact Below.refl _ _ | refine Below.drew ?_ | refine below_alloc' ?_ rfl _)); rintro e w2 ⟨la2, lc2, i2, ra2, rn2, rc2, na2, nn2, nc2, ca2, cn2, cc2, bad2, dp2, rfl, hb, hq⟩; have hbd : bad2 = -1 := hq.choose_spec.1.2.1; have hdp : dp2 = false := hq.choose_spec.1.2.2.1; subst hbd hdp; have HQ0 := Lib.hid hq; have hB2 : Bl w2 (w.heap.size + 1) 65 zeroV := Bl.below (by repeat (first | (refine Bl.new' ?_; simp; done) | refine Bl.drew ?_ | refine Bl.past ?_)) hb; have HBB : Hid (Below w.heap.size w w2) := Lib.hid (Below.trans (by repeat (first | exact Below.refl _ _ | refine Below.drew ?_ | refine below_alloc' ?_ rfl _)) (hb.mono (by simp; omega))); obtain ⟨⟨c0, c1, c2, c3, c4, c5, c6, c7⟩, cf, cl⟩ := cells8 hB2; have HB2 := Lib.hid hB2; have HQ := Lib.hid hq; clear hb hq hB2)
  have hx3 := Bl.new w2 65 #[.slice la2 R.T.length lc2, .int .i64 i2, .slice ra2 rn2 rc2, .slice na2 nn2 nc2, .slice ca2 cn2 cc2, .int .i64 (-1), .bool false, .bool R.one]
  have ho3 := HB2.out.below (one_new w2 (.cells #[.slice la2 R.T.length lc2, .int .i64 i2, .slice ra2 rn2 rc2, .slice na2 nn2 nc2, .slice ca2 cn2 cc2, .int .i64 (-1), .bool false, .bool R.one] 65))
  have hq3 := HQ.out.below (one_new w2 (.cells #[.slice la2 R.T.length lc2, .int .i64 i2, .slice ra2 rn2 rc2, .slice na2 nn2 nc2, .slice ca2 cn2 cc2, .int .i64 (-1), .bool false, .bool R.one] 65))
  have hb3 := HBB.out.trans ((one_new w2 (.cells #[.slice la2 R.T.length lc2, .int .i64 i2, .slice ra2 rn2 rc2, .slice na2 nn2 nc2, .slice ca2 cn2 cc2, .int .i64 (-1), .bool false, .bool R.one] 65)).mono HBB.out.size)
  have hs3 : w2.heap.size < (w2.alloc (.cells #[.slice la2 R.T.length lc2, .int .i64 i2, .slice ra2 rn2 rc2, .slice na2 nn2 nc2, .slice ca2 cn2 cc2, .int .i64 (-1), .bool false, .bool R.one] 65)).heap.size := by simp
  obtain ⟨W3, hW3⟩ : ∃ W3, w2.alloc (.cells #[.slice la2 R.T.length lc2, .int .i64 i2, .slice ra2 rn2 rc2, .slice na2 nn2 nc2, .slice ca2 cn2 cc2, .int .i64 (-1), .bool false, .bool R.one] 65) = W3 := ⟨_, rfl⟩
  rw [hW3] at hx3 ho3 hq3 hb3 hs3 ⊢
  clear c0 c1 c2 c3 c4 c5 c6 c7 cf hW3
  obtain ⟨⟨x0, x1, x2, x3, x4, x5, x6, x7⟩, xf, xl⟩ := cells8 hx3
  obtain ⟨⟨c0, c1, c2, c3, c4, c5, c6, c7⟩, cf, ol3⟩ := cells8 ho3
  obtain ⟨B3, hB3⟩ : ∃ B3, w2.heap.size = B3 := ⟨_, rfl⟩
  rw [hB3] at hx3 x0 x1 x2 x3 x4 x5 x6 x7 xf xl hs3 cl ⊢
  have HX3 := Lib.hid hx3
  have HO3 := Lib.hid ho3
  have HQ3 := Lib.hid hq3
  have HB3 := Lib.hid hb3
  have hne3 : ¬ w.heap.size + 1 = B3 := by omega
  have hne4 : ¬ B3 = w.heap.size + 1 := by omega
  clear hx3 ho3 hq3 hb3 hB3 HB2 HQ HBB HQ0
  have hq3r := HQ3.out.choose_spec.1.rrow
  obtain ⟨-, ⟨q1, -, -, ⟨m, hmi, hmT⟩, hcne, -⟩, -⟩ := HQ3.out
  have hmi : i2 = (m : Int) := hmi
  subst hmi
  match c, hEc, hcne, hmT with
  | u :: us, hEc, _, hmT =>
  have HKD := Lib.hid (qkind_raw R ⟨la2, lc2, (m : Int), ra2, rn2, rc2, na2, nn2, nc2, ca2, cn2, cc2, -1, false⟩ W3 m u us q1 rfl hmT)
  have hmlt := (q1.tok hmT).1
  have v3 : IntKind.i64.wrap ((m : Int) + 1) = (m : Int) + 1 := IntWalk.i64_in _ (by omega)
  have kneg : ¬ ((0 : Int) ≤ -1) := by decide
  have hu : u.kind ≠ 10 := hc
  have e3 : (kI u.kind != 10) = true := ibne_yes (kI_ne hu)
  obtain ⟨kk, hkk⟩ : ∃ y, kI u.kind = y := ⟨_, rfl⟩
  have HW := Lib.hid fun (W : World) (hb : Below W3.heap.size W3 W) => qwrong_at la2 lc2 (m : Int) ra2 rn2 rc2 na2 nn2 nc2 ca2 cn2 cc2 (-1) false m rfl hmT (List.cons_ne_nil _ _) (q1.below hb) (hq3r.below hb)
  rw [hkk] at HKD e3
  unfold SV.v at HKD
  dsimp only at HKD
  clear q1 hmT hu hkk hc hEc hmlt hq3r
  go_upto_region 18 with (go_at_call 21; (with_reducible refine HKD.out.mono ?_); rintro e w4 ⟨rfl, hb4⟩; have HB34 := Lib.hid hb4; have hx4 := HX3.out.below hb4; have ho4 := HO3.out.below hb4; have hq4 := HQ3.out.below hb4; have hbb4 := HB3.out.trans (hb4.mono HB3.out.size); obtain ⟨⟨y0, y1, y2, y3, y4, y5, y6, y7⟩, yf, yl⟩ := cells8 hx4; obtain ⟨⟨z0, z1, z2, z3, z4, z5, z6, z7⟩, zf, zl⟩ := cells8 ho4; have HX4 := Lib.hid hx4; have HO4 := Lib.hid ho4; have HQ4 := Lib.hid hq4; have HB4 := Lib.hid hbb4; clear hx4 ho4 hq4 hbb4 hb4)
  clear c0 c1 c2 c3 c4 c5 c6 c7 cf x0 x1 x2 x3 x4 x5 x6 x7 xf xl ol3 HX3 HO3 HQ3
  go_wp2_with (go_at_call 22; (with_reducible refine (HW.out _ HB34.out).mono ?_); rintro e w5 ⟨la5, lc5, i5, ra5, rn5, rc5, na5, nn5, nc5, ca5, cn5, cc5, bad5, dp5, rfl, hb5, hq5⟩; have ho5 := HO4.out.below hb5; have hbb5 := HB4.out.trans (hb5.mono HB4.out.size); obtain ⟨⟨o0, o1, o2, o3, o4, o5, o6, o7⟩, of, ol⟩ := cells8 ho5; have HO5 := Lib.hid ho5; have HB5 := Lib.hid hbb5; have HQ5 := Lib.hid hq5; clear ho5 hbb5 hb5 hq5 z0 z1 z2 z3 z4 z5 z6 z7 zf y0 y1 y2 y3 y4 y5 y6 y7 yf)
  clear o0 o1 o2 o3 o4 o5 o6 o7 of
  obtain ⟨⟨c0, c1, c2, c3, c4, c5, c6, c7⟩, cf, -⟩ := cells8 (stored8 HO5.out (.slice la5 R.T.length lc5) (.int .i64 i5) (.slice ra5 rn5 rc5) (.slice na5 nn5 nc5) (.slice ca5 cn5 cc5) (.int .i64 bad5) (.bool dp5) (.bool R.one))
  refine bodyPost_ret (v := .tuple #[.agg #[.slice la5 R.T.length lc5, .int .i64 i5, .slice ra5 rn5 rc5, .slice na5 nn5 nc5, .slice ca5 cn5 cc5, .int .i64 bad5, .bool dp5, .bool R.one], .int .i64 0]) (by simp [results, Tryz.results49, go_sem, c0, c1, c2, c3, c4, c5, c6, c7]) rfl ?_
  exact ⟨la5, lc5, i5, ra5, rn5, rc5, na5, nn5, nc5, ca5, cn5, cc5, bad5, dp5, rfl, below8 HB5.out (by omega) _ _ _ _ _ _ _ _, RBad.low8 HQ5.out HO5.out _ _ _ _ _ _ _ _⟩
set_option maxHeartbeats 4000000 in
set_option maxRecDepth 100000 in
theorem qprim_open_yes (c : List Tok) (g : MF) (hEc : Endy c) (hc : kd c = 10) (hd : d < 200) (hE : Endy (⟨9, a, tx, r⟩ :: tl)) (h : RSt R rs (⟨9, a, tx, r⟩ :: tl) f qs ⟨la, lc, i, ra, rn, rc, na, nn, nc, ca, cn, cc, -1, false⟩ w)
    (hC : ∀ (x : SV) (W : World), Below w.heap.size w W → RSt R rs tl f qs x W → Calls Tryz.prog 23 #[x.v R, .int .i64 ((d : Int) + 1)] W (RRes R (lastI g) (RF R rs c g qs W.heap.size) W)) :
    Calls Tryz.prog 49 #[.agg #[.slice la R.T.length lc, .int .i64 i, .slice ra rn rc, .slice na nn nc, .slice ca cn cc, .int .i64 (-1), .bool false, .bool R.one], .int .i64 (d : Int)] w (RRes R (lastI g) (RF R rs c.tail g qs w.heap.size) w) := by
  have h0 := h
  obtain ⟨h1, -, -, ⟨n, hi, hn⟩, -⟩ := h
  obtain ⟨hlt, b, hla, ⟨t0, t1, t2, t3, t4, t5, t6⟩, hbl⟩ := h1.tok hn
  have hla : la = some ⟨b, 0, none⟩ := hla
  have hi : i = n := hi
  subst hla hi
  have hTl := h1.2
  have k1 : (n : Int) < (R.T.length : Int) := by omega
  have v1 : IntKind.i64.wrap ((n : Int) + 1) = (n : Int) + 1 := IntWalk.i64_in _ (by omega)
  have htl := hE.tail (show (9 : Nat) ≠ 0 by decide) (show (9 : Nat) ≠ 99 by decide)
  have hst : RSt R rs tl f qs ⟨some ⟨b, 0, none⟩, lc, (n : Int) + 1, ra, rn, rc, na, nn, nc, ca, cn, cc, -1, false⟩ w := by
    obtain ⟨h1, h2, h3, -, -, h6⟩ := h0
    exact ⟨h1, h2, h3, ⟨n + 1, by show (n : Int) + 1 = _; omega, by rw [← List.tail_drop, hn]; rfl⟩, htl.ne, h6⟩
  have HE := Lib.hid fun (W : World) (hb : Below w.heap.size w W) => (show Calls Tryz.prog 23 #[.agg #[.slice (some ⟨b, 0, none⟩) R.T.length lc, .int .i64 ((n : Int) + 1), .slice ra rn rc, .slice na nn nc, .slice ca cn cc, .int .i64 (-1), .bool false, .bool R.one], .int .i64 ((d : Int) + 1)] W (RRes R (lastI g) (RF R rs c g qs w.heap.size) W) from (hC ⟨some ⟨b, 0, none⟩, lc, (n : Int) + 1, ra, rn, rc, na, nn, nc, ca, cn, cc, -1, false⟩ W hb (hst.below hb)).mono fun e w' k => k.mono fun x W2 q => q.lo hb.size)
  have e0 : kI 9 = 9 := rfl
  dsimp only at t0
  rw [e0] at t0
  have e1 : ((d : Int) == 200) = false := beq_no (by omega)
  have v2 : IntKind.i64.wrap ((d : Int) + 1) = (d : Int) + 1 := IntWalk.i64_in _ (by omega)
  clear h1 h0 hst htl hn e0 hC hE hd
  go_enter Tryz.func49, Tryz.ntmps49
  go_upto_region 15 with (go_at_call 23; (with_reducible refine (HE.out _ ?_).mono ?_); (· repeat (first | exact Below.refl _ _ | refine Below.drew ?_ | refine below_alloc' ?_ rfl _)); rintro e w2 ⟨la2, lc2, i2, ra2, rn2, rc2, na2, nn2, nc2, ca2, cn2, cc2, bad2, dp2, rfl, hb, hq⟩; have hbd : bad2 = -1 := hq.choose_spec.1.2.1; have hdp : dp2 = false := hq.choose_spec.1.2.2.1; subst hbd hdp; have HQ0 := Lib.hid hq; have hB2 : Bl w2 (w.heap.size + 1) 65 zeroV := Bl.below (by repeat (first | (refine Bl.new' ?_; simp; done) | refine Bl.drew ?_ | refine Bl.past ?_)) hb; have HBB : Hid (Below w.heap.size w w2) := Lib.hid (Below.trans (by repeat (first | exact Below.refl _ _ | refine Below.drew ?_ | refine below_alloc' ?_ rfl _)) (hb.mono (by simp; omega))); obtain ⟨⟨c0, c1, c2, c3, c4, c5, c6, c7⟩, cf, cl⟩ := cells8 hB2; have HB2 := Lib.hid hB2; have HQ := Lib.hid hq; clear hb hq hB2)
  have hx3 := Bl.new w2 65 #[.slice la2 R.T.length lc2, .int .i64 i2, .slice ra2 rn2 rc2, .slice na2 nn2 nc2, .slice ca2 cn2 cc2, .int .i64 (-1), .bool false, .bool R.one]
  have ho3 := HB2.out.below (one_new w2 (.cells #[.slice la2 R.T.length lc2, .int .i64 i2, .slice ra2 rn2 rc2, .slice na2 nn2 nc2, .slice ca2 cn2 cc2, .int .i64 (-1), .bool false, .bool R.one] 65))
  have hq3 := HQ.out.below (one_new w2 (.cells #[.slice la2 R.T.length lc2, .int .i64 i2, .slice ra2 rn2 rc2, .slice na2 nn2 nc2, .slice ca2 cn2 cc2, .int .i64 (-1), .bool false, .bool R.one] 65))
  have hb3 := HBB.out.trans ((one_new w2 (.cells #[.slice la2 R.T.length lc2, .int .i64 i2, .slice ra2 rn2 rc2, .slice na2 nn2 nc2, .slice ca2 cn2 cc2, .int .i64 (-1), .bool false, .bool R.one] 65)).mono HBB.out.size)
  have hs3 : w2.heap.size < (w2.alloc (.cells #[.slice la2 R.T.length lc2, .int .i64 i2, .slice ra2 rn2 rc2, .slice na2 nn2 nc2, .slice ca2 cn2 cc2, .int .i64 (-1), .bool false, .bool R.one] 65)).heap.size := by simp
  obtain ⟨W3, hW3⟩ : ∃ W3, w2.alloc (.cells #[.slice la2 R.T.length lc2, .int .i64 i2, .slice ra2 rn2 rc2, .slice na2 nn2 nc2, .slice ca2 cn2 cc2, .int .i64 (-1), .bool false, .bool R.one] 65) = W3 := ⟨_, rfl⟩
  rw [hW3] at hx3 ho3 hq3 hb3 hs3 ⊢
  clear c0 c1 c2 c3 c4 c5 c6 c7 cf hW3
  obtain ⟨⟨x0, x1, x2, x3, x4, x5, x6, x7⟩, xf, xl⟩ := cells8 hx3
  obtain ⟨⟨c0, c1, c2, c3, c4, c5, c6, c7⟩, cf, ol3⟩ := cells8 ho3
  obtain ⟨B3, hB3⟩ : ∃ B3, w2.heap.size = B3 := ⟨_, rfl⟩
  rw [hB3] at hx3 x0 x1 x2 x3 x4 x5 x6 x7 xf xl hs3 cl ⊢
  have HX3 := Lib.hid hx3
  have HO3 := Lib.hid ho3
  have HQ3 := Lib.hid hq3
  have HB3 := Lib.hid hb3
  have hne3 : ¬ w.heap.size + 1 = B3 := by omega
  have hne4 : ¬ B3 = w.heap.size + 1 := by omega
  clear hx3 ho3 hq3 hb3 hB3 HB2 HQ HBB HQ0
  obtain ⟨-, ⟨q1, -, -, ⟨m, hmi, hmT⟩, hcne, -⟩, -⟩ := HQ3.out
  have hmi : i2 = (m : Int) := hmi
  subst hmi
  match c, hEc, hcne, hmT with
  | u :: us, hEc, _, hmT =>
  have HKD := Lib.hid (qkind_raw R ⟨la2, lc2, (m : Int), ra2, rn2, rc2, na2, nn2, nc2, ca2, cn2, cc2, -1, false⟩ W3 m u us q1 rfl hmT)
  have hmlt := (q1.tok hmT).1
  have v3 : IntKind.i64.wrap ((m : Int) + 1) = (m : Int) + 1 := IntWalk.i64_in _ (by omega)
  have kneg : ¬ ((0 : Int) ≤ -1) := by decide
  have hu : u.kind = 10 := hc
  have e3 : kI u.kind = 10 := by rw [hu]; rfl
  have htl2 := hEc.tail (show u.kind ≠ 0 by omega) (show u.kind ≠ 99 by omega)
  unfold SV.v at HKD
  dsimp only at HKD
  rw [e3] at HKD
  have HDR : Hid (R.T.drop (m + 1) = us) := Lib.hid (by rw [← List.tail_drop, hmT]; rfl)
  have HNE := Lib.hid htl2.ne
  clear q1 hmT hu hc hEc hmlt e3 htl2
  go_upto_region 19 with (go_at_call 21; (with_reducible refine HKD.out.mono ?_); rintro e w4 ⟨rfl, hb4⟩; have HB34 := Lib.hid hb4; have hx4 := HX3.out.below hb4; have ho4 := HO3.out.below hb4; have hq4 := HQ3.out.below hb4; have hbb4 := HB3.out.trans (hb4.mono HB3.out.size); obtain ⟨⟨y0, y1, y2, y3, y4, y5, y6, y7⟩, yf, yl⟩ := cells8 hx4; obtain ⟨⟨z0, z1, z2, z3, z4, z5, z6, z7⟩, zf, zl⟩ := cells8 ho4; have HX4 := Lib.hid hx4; have HO4 := Lib.hid ho4; have HQ4 := Lib.hid hq4; have HB4 := Lib.hid hbb4; clear hx4 ho4 hq4 hbb4 hb4)
  clear c0 c1 c2 c3 c4 c5 c6 c7 cf x0 x1 x2 x3 x4 x5 x6 x7 xf xl ol3 HX3 HO3 HQ3
  go_upto_region 20 with fail
  have hx5 := Bl.put (i := 1) HX4.out (.int .i64 ((m : Int) + 1))
  have hx5 : Bl (w4.setCell ⟨B3, 1, none⟩ (.int .i64 ((m : Int) + 1))) B3 65 #[.slice la2 R.T.length lc2, .int .i64 ((m : Int) + 1), .slice ra2 rn2 rc2, .slice na2 nn2 nc2, .slice ca2 cn2 cc2, .int .i64 (-1), .bool false, .bool R.one] := hx5
  have ho5 := HO4.out.other (o := 1) hne3 (.int .i64 ((m : Int) + 1))
  have hq5 := HQ4.out.low HX4.out 1 (.int .i64 ((m : Int) + 1))
  have hb5 := HB4.out.setCell (p := ⟨B3, 1, none⟩) (by show w.heap.size ≤ B3; omega) (.int .i64 ((m : Int) + 1))
  obtain ⟨W5, hW5⟩ : ∃ W5, w4.setCell ⟨B3, 1, none⟩ (.int .i64 ((m : Int) + 1)) = W5 := ⟨_, rfl⟩
  rw [hW5] at hx5 ho5 hq5 hb5 ⊢
  clear y0 y1 y2 y3 y4 y5 y6 y7 yf z0 z1 z2 z3 z4 z5 z6 z7 zf hW5 zl yl
  obtain ⟨⟨y0, y1, y2, y3, y4, y5, y6, y7⟩, yf, yl⟩ := cells8 hx5
  obtain ⟨⟨z0, z1, z2, z3, z4, z5, z6, z7⟩, zf, zl⟩ := cells8 ho5
  have HO5 := Lib.hid ho5
  have HQ5 := Lib.hid hq5
  have HB5 := Lib.hid hb5
  clear hx5 ho5 hq5 hb5
  go_wp2
  clear z0 z1 z2 z3 z4 z5 z6 z7 zf
  obtain ⟨⟨c0, c1, c2, c3, c4, c5, c6, c7⟩, cf, -⟩ := cells8 (stored8 HO5.out (.slice la2 R.T.length lc2) (.int .i64 ((m : Int) + 1)) (.slice ra2 rn2 rc2) (.slice na2 nn2 nc2) (.slice ca2 cn2 cc2) (.int .i64 (-1)) (.bool false) (.bool R.one))
  refine bodyPost_ret (v := .tuple #[.agg #[.slice la2 R.T.length lc2, .int .i64 ((m : Int) + 1), .slice ra2 rn2 rc2, .slice na2 nn2 nc2, .slice ca2 cn2 cc2, .int .i64 (-1), .bool false, .bool R.one], .int .i64 (lastI g)]) (by simp [results, Tryz.results49, go_sem, c0, c1, c2, c3, c4, c5, c6, c7]) rfl ?_
  refine ⟨la2, lc2, (m : Int) + 1, ra2, rn2, rc2, na2, nn2, nc2, ca2, cn2, cc2, -1, false, rfl, below8 HB5.out (by omega) _ _ _ _ _ _ _ _, ?_⟩
  have hz := RF.low8 HQ5.out HO5.out (.slice la2 R.T.length lc2) (.int .i64 ((m : Int) + 1)) (.slice ra2 rn2 rc2) (.slice na2 nn2 nc2) (.slice ca2 cn2 cc2) (.int .i64 (-1)) (.bool false) (.bool R.one)
  obtain ⟨tq, ⟨s1, s2, s3, -, -, s6⟩, ht⟩ := hz
  exact ⟨tq, ⟨s1, s2, s3, ⟨m + 1, by show (m : Int) + 1 = _; omega, HDR.out⟩, HNE.out, s6⟩, ht⟩
end
end
end Go.Proofs.YtmjnbapkpcfgcaaGreatDoor
