/- measure: apart; the reference of Runs; comparisons; awake. -/
import Derived.Test.YtklimoepkifnhaaMeasRuns
import Derived.Deep.RegionHeld3
import Derived.Test.YtklimoepkifnhaaSetEq
import Derived.Test.YtklimoepkifnhaaGramEq
import Derived.Test.YtklimoepkifnhaaGramCmp
import Derived.BigQuiet
import Derived.Deep.QuietTactic
import Derived.Test.YtklimoepkifnhaaMeasOf
import Derived.Test.YtklimoepkifnhaaGramOwnRow
namespace Go.Proofs.Ytklimoepkifnhaa
section
open Go.RowKit
theorem tellB_take {ns : List PN} {k : Nat} {n : PN} (hn : ns[k]? = some n) (a b : Nat) : tellB (ns.take (k + 1)) a b = (tellB (ns.take k) a b || (bitF n a != bitF n b)) := by
  rw [take_snoc' ns k n hn]; unfold tellB; rw [List.any_append]; simp
theorem tellB_hit {ns : List PN} {k : Nat} {n : PN} (hn : ns[k]? = some n) {a b : Nat} (h : (bitF n a != bitF n b) = true) : tellB ns a b = true := by
  unfold tellB; rw [List.any_eq_true]; exact ⟨n, List.mem_of_getElem? hn, h⟩
theorem apartK {n G nb o : Nat} {x0 x1 x2 x3 x4 : Value} {w W W' : World} (hn : n ≤ w.heap.size) (hb : Below W.heap.size W W') (h : W.cell? ⟨G, 1, none⟩ = some x0 ∧ W.cell? ⟨nb, o + 3, none⟩ = some x1 ∧ W.cell? ⟨nb, o + 4, none⟩ = some x2 ∧ W.cell? ⟨nb, o + 5, none⟩ = some x3 ∧ W.cell? ⟨nb, o + 6, none⟩ = some x4 ∧ Below n w W) :
    W'.cell? ⟨G, 1, none⟩ = some x0 ∧ W'.cell? ⟨nb, o + 3, none⟩ = some x1 ∧ W'.cell? ⟨nb, o + 4, none⟩ = some x2 ∧ W'.cell? ⟨nb, o + 5, none⟩ = some x3 ∧ W'.cell? ⟨nb, o + 6, none⟩ = some x4 ∧ Below n w W' := by
  obtain ⟨h0, h1, h2, h3, h4, h5⟩ := h
  have hc := (bcell hb).1
  exact ⟨by rw [hc _ _ (lt_of_cell h0)]; exact h0, by rw [hc _ _ (lt_of_cell h1)]; exact h1, by rw [hc _ _ (lt_of_cell h2)]; exact h2, by rw [hc _ _ (lt_of_cell h3)]; exact h3, by rw [hc _ _ (lt_of_cell h4)]; exact h4, h5.trans (hb.mono (Nat.le_trans hn h5.size))⟩
theorem rhas_w {f : Nat → Bool} {c : Nat} (hc : c < 256) (W : World) : Calls Try.prog 17 #[.agg #[.int .u64 (setW f 0), .int .u64 (setW f 1), .int .u64 (setW f 2), .int .u64 (setW f 3)], .int .u8 (c : Int)] W fun e w' => e = .returned (.bool (f c)) ∧ Below W.heap.size W w' := by
  have := rhas_any f (c : Int) W (by omega) (by omega)
  rw [show ((c : Int)).toNat = c by omega] at this
  exact this
set_option maxHeartbeats 8000000 in
set_option maxRecDepth 100000 in
theorem apart_any (ra : Option Addr) (rn rc : Nat) (nv : Value) (ns : List PN) (x y : Nat) (hx : x < 256) (hy : y < 256) (w : World) (hN : NodesAt w nv ns) (hs : ns.length ≤ 1000000) (hw : ∀ n, n ∈ ns → WordsOk n) :
    Calls Try.prog 29 #[.agg #[.slice ra rn rc, nv], .int .u8 (x : Int), .int .u8 (y : Int)] w fun e w' => e = .returned (.bool (tellB ns x y)) ∧ Below w.heap.size w w' := by
  obtain ⟨-, a, ca, rfl, ha⟩ := hN
  go_enter Try.func29, Try.ntmps29
  go_wp2
  go_loopw [7] (fun c wr => ∃ k : Nat, k ≤ ns.length ∧ c = .int .i64 k ∧ Below w.heap.size w wr ∧ wr.cell? ⟨w.heap.size, 1, none⟩ = some (.slice a ns.length ca) ∧ tellB (ns.take k) x y = false) (fun c _ => ns.length - (intOf c).toNat)
  case atStart => exact ⟨0, Nat.zero_le _, rfl, one_new _ _, by simp, rfl⟩
  case round =>
    obtain ⟨k, hk, rfl, hb, g1, hf⟩ := hrel
    by_cases hlt : k < ns.length
    · have k1 : (k : Int) < (ns.length : Int) := by omega
      obtain ⟨n, hn⟩ : ∃ n, ns[k]? = some n := ⟨_, List.getElem?_eq_getElem hlt⟩
      rcases ha with h0 | ⟨nb, no, rfl, hca⟩
      · rw [h0] at hlt; exact absurd hlt (Nat.not_lt_zero _)
      obtain ⟨kv, -, -, -, c3, c4, c5, c6, -, -⟩ := (hca k n hn).kept hb (Nat.le_refl _)
      obtain ⟨w0, w1, w2, w3⟩ := bitF_word (hw n (List.mem_of_getElem? hn))
      rw [w0] at c3
      rw [w1] at c4
      rw [w2] at c5
      rw [w3] at c6
      have HF := Lib.hid hf
      have HT := Lib.hid (tellB_take hn x y)
      have HH := Lib.hid (tellB_hit hn (a := x) (b := y))
      have HU1 := Lib.hid (fun W => rhas_w (f := bitF n) hx W)
      have HU2 := Lib.hid (fun W => rhas_w (f := bitF n) hy W)
      have HB := Lib.hid hb
      have hwp : (fun W : World => W.cell? ⟨w.heap.size, 1, none⟩ = some (.slice (some ⟨nb, no, none⟩) ns.length ca) ∧ W.cell? ⟨nb, no + k * 7 + 3, none⟩ = some (.int .u64 (setW (bitF n) 0)) ∧ W.cell? ⟨nb, no + k * 7 + 4, none⟩ = some (.int .u64 (setW (bitF n) 1)) ∧ W.cell? ⟨nb, no + k * 7 + 5, none⟩ = some (.int .u64 (setW (bitF n) 2)) ∧ W.cell? ⟨nb, no + k * 7 + 6, none⟩ = some (.int .u64 (setW (bitF n) 3)) ∧ Below w.heap.size w W) wr.drew := ⟨g1, c3, c4, c5, c6, hb.drew⟩
      have hS := Lib.hid hwp
      clear hwp hb hf hca hn hw w0 w1 w2 w3
      generalize bitF n x = u at *
      generalize bitF n y = v at *
      go_wp2
      clear g1 c3 c4 c5 c6
      replace hS := hS.out
      obtain ⟨n0, hn0⟩ : ∃ n0, w.heap.size = n0 := ⟨_, rfl⟩
      have hnw : n0 ≤ w.heap.size := Nat.le_of_eq hn0.symm
      have HN0 := Lib.hid hn0
      have hS2 : (fun W : World => W.cell? ⟨w.heap.size, 1, none⟩ = some (.slice (some ⟨nb, no, none⟩) ns.length ca) ∧ W.cell? ⟨nb, no + k * 7 + 3, none⟩ = some (.int .u64 (setW (bitF n) 0)) ∧ W.cell? ⟨nb, no + k * 7 + 4, none⟩ = some (.int .u64 (setW (bitF n) 1)) ∧ W.cell? ⟨nb, no + k * 7 + 5, none⟩ = some (.int .u64 (setW (bitF n) 2)) ∧ W.cell? ⟨nb, no + k * 7 + 6, none⟩ = some (.int .u64 (setW (bitF n) 3)) ∧ Below n0 w W) wr.drew := by
        obtain ⟨a0, a1, a2, a3, a4, a5⟩ := hS
        exact ⟨a0, a1, a2, a3, a4, by rw [← hn0]; exact a5⟩
      clear hS hn0
      have hS := hS2
      clear hS2
      dsimp only at hS
      go_region_held3 (fun W => W.cell? ⟨w.heap.size, 1, none⟩ = some (.slice (some ⟨nb, no, none⟩) ns.length ca) ∧ W.cell? ⟨nb, no + k * 7 + 3, none⟩ = some (.int .u64 (setW (bitF n) 0)) ∧ W.cell? ⟨nb, no + k * 7 + 4, none⟩ = some (.int .u64 (setW (bitF n) 1)) ∧ W.cell? ⟨nb, no + k * 7 + 5, none⟩ = some (.int .u64 (setW (bitF n) 2)) ∧ W.cell? ⟨nb, no + k * 7 + 6, none⟩ = some (.int .u64 (setW (bitF n) 3)) ∧ Below n0 w W) (first | exact hS)
        (first
          | (go_at_call 17; first
              | (with_reducible refine (HU1.out _).mono ?_; rintro ev w3 ⟨rfl, hb⟩; replace hS := apartK hnw hb hS; clear hb)
              | (with_reducible refine (HU2.out _).mono ?_; rintro ev w3 ⟨rfl, hb⟩; replace hS := apartK hnw hb hS; clear hb)))
      obtain ⟨g1, -, -, -, -, hbf⟩ := hS
      have HBF := Lib.hid (show Below w.heap.size w w3 by rw [HN0.out]; exact hbf)
      clear hbf
      cases huv : (u == v) with
      | true =>
        have HUV := Lib.hid huv
        go_wp2
        refine ⟨⟨k + 1, by omega, by go_num, HBF.out, g1, ?_⟩, by simp [intOf]; omega⟩
        rw [HT.out, HF.out, show (u != v) = !(u == v) from rfl, HUV.out]; rfl
      | false =>
        have HUV := Lib.hid huv
        go_wp2
        go_ret
        rw [HH.out (by rw [show (u != v) = !(u == v) from rfl, HUV.out]; rfl)]
        exact ⟨rfl, HBF.out⟩
    · obtain rfl : k = ns.length := by omega
      have k1 : ¬ (ns.length : Int) < (ns.length : Int) := by omega
      rw [List.take_length] at hf
      have HF := Lib.hid hf
      have HB := Lib.hid hb
      clear hf hb
      go_wp2
      go_ret
      rw [HF.out]
      exact ⟨rfl, HB.out⟩
end
section
open Go.RowKit
/-- The state of the loop at byte c: the last class is open. -/
def RRunS (d : Nat → Bool) (rv nv : Value) (w : World) (c f u : Value) (W : World) : Prop :=
  ∃ k : Nat, c = .int .i64 (k : Int) ∧ Below w.heap.size w W ∧ Bl W w.heap.size 25 #[rv, nv] ∧
    ((1 ≤ k ∧ k ≤ 256 ∧ ∃ (l : List (Nat × Nat)) (a : Nat), f = .int .i64 (a : Int) ∧ a < k ∧ l.length < k ∧ classL d k = l ++ [(a, k - 1)] ∧ W.ownsRow w.heap.size 43 2 u l.length (runCells l)) ∨
      (k = 257 ∧ W.ownsRow w.heap.size 43 2 u (classL d 256).length (runCells (classL d 256))))
set_option maxHeartbeats 8000000 in
set_option maxRecDepth 100000 in
theorem r7runs_any (ra : Option Addr) (rn rc : Nat) (nv : Value) (ns : List PN) (w : World) (hN : NodesAt w nv ns) (hs : ns.length ≤ 1000000) (hw : ∀ n, n ∈ ns → WordsOk n) :
    Calls Try.prog 14 #[.agg #[.slice ra rn rc, nv]] w (RunsIs (classL (begB ns) 256) w) := by
  obtain ⟨ii, hii, hz0, hz1, hz2⟩ := info_parts Try.infoRun
  have HC := Lib.hid (fun (W : World) (hb : Below w.heap.size w W) (x y : Nat) (hx : x < 256) (hy : y < 256) => apart_any ra rn rc nv ns x y hx hy W (hN.kept hb (Nat.le_refl _)) hs hw)
  obtain ⟨-, a, ca, rfl, -⟩ := hN
  have h0 : begB ns 0 = true := begB_zero ns
  have HD := Lib.hid (show ∀ c, 1 ≤ c → begB ns c = tellB ns (c - 1) c from fun c hc => by unfold begB; rw [decide_eq_false (by omega), Bool.false_or])
  generalize begB ns = d at *
  have H0 := Lib.hid h0
  clear hw h0
  go_enter Try.func14, Try.ntmps14
  go_wp2
  go_loopw [5, 4, 3] (fun c f u wr => RRunS d (.slice ra rn rc) (.slice a ns.length ca) w c f u wr) (fun c _ _ _ => 257 - (intOf c).toNat)
  case atStart => exact ⟨1, rfl, one_new _ _, Bl.new _ _ _, .inl ⟨by omega, by omega, [], 0, rfl, by omega, by simp, by show (if d 0 then _ else _) = _; rw [H0.out]; rfl, World.ownsRow_nil _ _ _ _⟩⟩
  case round =>
    obtain ⟨k, rfl, hb, hG, h⟩ := hrel
    have g0 : wr.cell? ⟨w.heap.size, 0, none⟩ = some (.slice ra rn rc) := hG.cell (o := 0) rfl
    have g1 : wr.cell? ⟨w.heap.size, 1, none⟩ = some (.slice a ns.length ca) := hG.cell (o := 1) rfl
    have HB := Lib.hid hb
    have HG := Lib.hid hG
    rcases h with ⟨hk1, hk2, l, f, rfl, hfk, hlk, hcl, ho⟩ | ⟨rfl, ho⟩
    · obtain ⟨ua, uc, rfl⟩ := own_slice' ho
      have HO := Lib.hid ho
      have HCL := Lib.hid hcl
      have e1 : IntKind.u8.wrap (f : Int) = (f : Int) := by rw [IntKind.wrap_u8]; omega
      have e2 : IntKind.u8.wrap ((k : Int) - 1) = (((k - 1 : Nat)) : Int) := by rw [IntKind.wrap_u8]; omega
      clear hb hG hcl ho
      by_cases hk : k = 256
      · subst hk
        have HCL2 := Lib.hid (show classL d 256 = l ++ [(f, 255)] from HCL.out)
        clear e2
        go_wp2_with (at_builtin; refine wpList_append_own _ rfl _ _ 40 rfl w.heap.size 43 ii (.agg #[.int .u8 0, .int .u8 0]) 2 2 Try.underlying40 hii hz0 hz1 hz2 rfl (by decide) _ l.length _ rfl (ownsRow_grown HO.out (one_new _ _)) ⟨_, 0, none⟩ 1 1 [.int .u8 (f : Int), .int .u8 255] rfl rfl (cell_two_new _ _ _ _) (by simp [Value.oneCell']) (by unfold maxLen; omega) (by omega) (by have := HB.out.size; simp; omega) ?_; intro v5 w5 hown' hgrow _; have HO5 := Lib.hid hown'; have HB5 := Lib.hid ((HB.out.trans ((one_new _ _).mono HB.out.size)).grown hgrow (Nat.le_trans HB.out.size (one_new _ _).size) (fun g e => (HO.out.lt g e).1)); have HG5 := Lib.hid ((HG.out.past).grown hgrow (fun g e => by obtain ⟨c, fz, hc⟩ := Lib.ownsRow_kind (ownsRow_grown HO.out (one_new _ _)) g e; exact ⟨c, 43, fz, hc, by decide⟩)); clear hown' hgrow)
        go_roundw
        case rel => exact ⟨257, by go_num, HB5.out, HG5.out, .inr ⟨rfl, by rw [HCL2.out, runCells_snoc]; have := HO5.out; simpa using this⟩⟩
        case measure => simp [intOf]
      · have hk3 : k < 256 := by omega
        have k1 : (k : Int) ≤ 256 := by omega
        have k2 : ((k : Int) == 256) = false := by rw [beq_eq_false_iff_ne]; omega
        have e3 : IntKind.u8.wrap (k : Int) = (k : Int) := by rw [IntKind.wrap_u8]; omega
        have HA := Lib.hid (HC.out wr HB.out (k - 1) k (by omega) hk3)
        rw [← HD.out k hk1] at HA
        cases hd : d k with
        | true =>
          have HS := Lib.hid (show classL d (k + 1) = (l ++ [(f, k - 1)]) ++ [(k, k)] by show (if d k then classL d k ++ [(k, k)] else _) = _; rw [hd, HCL.out]; rfl)
          rw [hd] at HA
          clear hd
          go_wp2_with (first
            | (go_at_call 29; (with_reducible refine HA.out.mono ?_); rintro e w3 ⟨rfl, hb3⟩; have HO3 := Lib.hid (ownsRow_grown HO.out hb3); have HB3 := Lib.hid (HB.out.trans (hb3.mono HB.out.size)); have HG3 := Lib.hid (HG.out.below hb3); clear hb3)
            | (at_builtin; refine wpList_append_own _ rfl _ _ 40 rfl w.heap.size 43 ii (.agg #[.int .u8 0, .int .u8 0]) 2 2 Try.underlying40 hii hz0 hz1 hz2 rfl (by decide) _ l.length _ rfl (ownsRow_grown HO3.out (one_new _ _)) ⟨_, 0, none⟩ 1 1 [.int .u8 (f : Int), .int .u8 ((k - 1 : Nat) : Int)] rfl rfl (cell_two_new _ _ _ _) (by simp [Value.oneCell']) (by unfold maxLen; omega) (by omega) (by have := HB3.out.size; simp; omega) ?_; intro v5 w5 hown' hgrow _; have HO5 := Lib.hid hown'; have HB5 := Lib.hid ((HB3.out.trans ((one_new _ _).mono HB3.out.size)).grown hgrow (Nat.le_trans HB3.out.size (one_new _ _).size) (fun g e => (HO3.out.lt g e).1)); have HG5 := Lib.hid ((HG3.out.past).grown hgrow (fun g e => by obtain ⟨c, fz, hc⟩ := Lib.ownsRow_kind (ownsRow_grown HO3.out (one_new _ _)) g e; exact ⟨c, 43, fz, hc, by decide⟩)); clear hown' hgrow))
          refine ⟨⟨k + 1, by go_num, HB5.out, HG5.out, .inl ⟨by omega, by omega, l ++ [(f, k - 1)], k, rfl, by omega, by rw [List.length_append]; simp; omega, HS.out, ?_⟩⟩, by simp [intOf]; omega⟩
          rw [runCells_snoc, List.length_append]
          have := HO5.out
          simpa using this
        | false =>
          have HS := Lib.hid (show classL d (k + 1) = l ++ [(f, k)] by show (if d k then _ else lastTo (classL d k) k) = _; rw [hd, if_neg (by simp), HCL.out]; exact lastTo_snoc l f (k - 1) k)
          rw [hd] at HA
          clear hd
          go_wp2_with (go_at_call 29; (with_reducible refine HA.out.mono ?_); rintro e w3 ⟨rfl, hb3⟩; have HO3 := Lib.hid (ownsRow_grown HO.out hb3); have HB3 := Lib.hid (HB.out.trans (hb3.mono HB.out.size)); have HG3 := Lib.hid (HG.out.below hb3); clear hb3)
          go_roundw
          case rel => exact ⟨k + 1, by go_num, HB3.out, HG3.out, .inl ⟨by omega, by omega, l, f, rfl, by omega, by omega, HS.out, HO3.out⟩⟩
          case measure => simp [intOf]; omega
    · have HO := Lib.hid ho
      obtain ⟨ua, uc, rfl⟩ := own_slice' ho
      clear hb hG ho
      go_wp2
      go_ret
      exact ⟨_, rfl, HO.out, HB.out⟩
end
section
open Go.RowKit
set_option maxHeartbeats 4000000 in
set_option maxRecDepth 100000 in
theorem eqRuns_any (u v : Value) (l m : List (Nat × Nat)) (w : World) (hl : l.length ≤ 1000000) (hu : PairsAt w u l) (hv : PairsAt w v m) (b : Bool) (hb : decide (l = m) = b) :
    Calls Try.prog 13 #[u, v] w fun e w' => e = .returned (.bool b) ∧ ∃ q, w' = w.drewN q := by
  subst hb
  obtain ⟨a, ca, rfl, ha⟩ := hu
  obtain ⟨b, cb, rfl, hb⟩ := hv
  by_cases hlen : l.length = m.length
  · have q1 : ((l.length : Int) != (m.length : Int)) = false := by rw [hlen]; simp
    go_enter Try.func13, Try.ntmps13
    go_wp2
    go_loopw [13] (fun c wr => ∃ (k q : Nat), k ≤ l.length ∧ c = .int .i64 k ∧ wr = w.drewN q ∧ l.take k = m.take k) (fun c _ => l.length - (intOf c).toNat)
    case atStart => exact ⟨0, 0, Nat.zero_le _, rfl, rfl, rfl⟩
    case round =>
      obtain ⟨k, q, hk, rfl, rfl, hq⟩ := hrel
      have HQ := Lib.hid hq
      clear hq
      by_cases hlt : k < l.length
      · obtain ⟨x, hx⟩ : ∃ x, l[k]? = some x := ⟨_, List.getElem?_eq_getElem hlt⟩
        obtain ⟨y, hy⟩ : ∃ y, m[k]? = some y := ⟨_, List.getElem?_eq_getElem (by omega)⟩
        rcases ha with h0 | ⟨ab, rfl, hca⟩
        · rw [h0] at hlt; exact absurd hlt (Nat.not_lt_zero _)
        rcases hb with h0 | ⟨bb, rfl, hcb⟩
        · rw [hlen, h0] at hlt; exact absurd hlt (Nat.not_lt_zero _)
        obtain ⟨c1, c2⟩ := hca k x hx
        obtain ⟨d1, d2⟩ := hcb k y hy
        have hlm : k < m.length := by omega
        have k1 : (k : Int) < (l.length : Int) := by omega
        have k2 : (k : Int) < (m.length : Int) := by omega
        have HX := Lib.hid hx
        have HY := Lib.hid hy
        have HL := Lib.hid hlen
        clear hca hcb hx hy hlen
        by_cases hxy : x = y
        · subst hxy
          have q2 : (!(((x.1 : Int) == (x.1 : Int)) && ((x.2 : Int) == (x.2 : Int)))) = false := by simp
          have hne := fun w => neq_run (x.1 : Int) (x.2 : Int) (x.1 : Int) (x.2 : Int) w
          rw [q2] at hne
          clear q2
          go_wp2
          refine wp_region_quiet_lit (by kernel_rfl) (by kernel_rfl) ?_
          repeat (first
            | (with_reducible refine gwpQuiet_agg BinOp.neq 43 _ _ _ rfl rfl _ _ rfl rfl gt_run _ hne ?_)
            | quiet_step (fail))
          refine wpQuiet_nil ?_
          intro _ hw'
          obtain ⟨nq, hw''⟩ := hw'
          subst hw''
          go_wp2
          refine ⟨⟨k + 1, _, by omega, by go_num, rfl, by rw [take_snoc' l k x HX.out, take_snoc' m k x HY.out, HQ.out]⟩, by simp [intOf]; omega⟩
        · have q2 : (!(((x.1 : Int) == (y.1 : Int)) && ((x.2 : Int) == (y.2 : Int)))) = true := by
            rw [Bool.not_eq_true', Bool.and_eq_false_iff, beq_eq_false_iff_ne, beq_eq_false_iff_ne]
            by_cases e : x.1 = y.1
            · right
              intro e2
              exact hxy (Prod.ext e (by omega))
            · left; omega
          have HN : Hid (decide (l = m) = false) := decN fun e => by
            have h1 := HX.out
            rw [e, HY.out] at h1
            exact hxy (Option.some.inj h1).symm
          have hne := fun w => neq_run (x.1 : Int) (x.2 : Int) (y.1 : Int) (y.2 : Int) w
          rw [q2] at hne
          clear q2
          go_wp2
          refine wp_region_quiet_lit (by kernel_rfl) (by kernel_rfl) ?_
          repeat (first
            | (with_reducible refine gwpQuiet_agg BinOp.neq 43 _ _ _ rfl rfl _ _ rfl rfl gt_run _ hne ?_)
            | quiet_step (fail))
          refine wpQuiet_nil ?_
          intro _ hw'
          obtain ⟨nq, hw''⟩ := hw'
          subst hw''
          go_wp2
          go_ret
          exact ⟨ret_bool HN.out.symm, _, rfl⟩
      · have HN : Hid (decide (l = m) = true) := decY (by
          have hk' : k = l.length := by omega
          have h1 := HQ.out
          rw [List.take_of_length_le (by omega), List.take_of_length_le (by omega)] at h1
          exact h1)
        have k1 : ¬ (k : Int) < (l.length : Int) := by omega
        go_wp2
        go_ret
        exact ⟨ret_bool HN.out.symm, _, rfl⟩
  · have q1 : ((l.length : Int) != (m.length : Int)) = true := ibne_yes (by omega)
    have HN : Hid (decide (l = m) = false) := decN fun e => hlen (by rw [e])
    go_enter Try.func13, Try.ntmps13
    go_wp2
    go_ret
    exact ⟨ret_bool HN.out.symm, 0, rfl⟩
theorem mem_take_no {l : List Int} {k : Nat} {x y : Int} (h : l[k]? = some y) (hx : x ∉ l.take k) (hy : y ≠ x) : x ∉ l.take (k + 1) := by
  rw [take_snoc' l k y h]
  intro hm
  rcases List.mem_append.1 hm with hm | hm
  · exact hx hm
  · exact hy (List.mem_singleton.1 hm).symm
set_option maxHeartbeats 4000000 in
set_option maxRecDepth 100000 in
theorem index_any (u : Value) (l : List Int) (x : Int) (w : World) (hl : l.length ≤ 1000000) (hu : IntsAt w u l) :
    Calls Try.prog 37 #[u, .int .i64 x] w fun e w' => ∃ i : Int, e = .returned (.int .i64 i) ∧ w' = w ∧ -1 ≤ i ∧ i ≤ 1000000 ∧ (x ∈ l ↔ 0 ≤ i) := by
  obtain ⟨a, ca, rfl, ha⟩ := hu
  go_enter Try.func37, Try.ntmps37
  go_wp2
  go_loopw [8] (fun c wr => ∃ k : Nat, k ≤ l.length ∧ c = .int .i64 k ∧ wr = w ∧ x ∉ l.take k) (fun c _ => l.length - (intOf c).toNat)
  case atStart => exact ⟨0, Nat.zero_le _, rfl, rfl, by simp⟩
  case round =>
    obtain ⟨k, hk, rfl, rfl, hno⟩ := hrel
    have HNO := Lib.hid hno
    clear hno
    by_cases hlt : k < l.length
    · have k1 : (k : Int) < (l.length : Int) := by omega
      obtain ⟨y, hy⟩ : ∃ y, l[k]? = some y := ⟨_, List.getElem?_eq_getElem hlt⟩
      rcases ha with h0 | ⟨ab, ao, rfl, hca⟩
      · rw [h0] at hlt; exact absurd hlt (Nat.not_lt_zero _)
      have c0 := hca k y hy
      have HY := Lib.hid hy
      clear hca hy
      by_cases hxy : x = y
      · subst hxy
        have q1 : (x == x) = true := by simp
        go_wp2
        go_ret
        exact ⟨(k : Int), rfl, rfl, by omega, by omega, fun _ => by omega, fun _ => List.mem_of_getElem? HY.out⟩
      · have q1 : (x == y) = false := ibeq_no hxy
        have HXY := Lib.hid hxy
        clear hxy
        go_wp2
        go_roundw
        case rel => exact ⟨k + 1, by omega, by go_num, trivial, mem_take_no HY.out HNO.out (fun e => HXY.out e.symm)⟩
        case measure => simp [intOf]; omega
    · obtain rfl : k = l.length := by omega
      have k1 : ¬ (l.length : Int) < (l.length : Int) := by omega
      go_wp2
      go_ret
      exact ⟨-1, rfl, rfl, by omega, by omega, fun h => absurd (by rw [List.take_length]; exact h) HNO.out, fun h => by omega⟩
theorem has_int (u : Value) (l : List Int) (x : Int) (b : Bool) (w : World) (hl : l.length ≤ 1000000) (hu : IntsAt w u l) (hb : decide (x ∈ l) = b) :
    Calls Try.prog 22 #[u, .int .i64 x] w fun e w' => e = .returned (.bool b) ∧ w' = w := by
  have HC := Lib.hid (index_any u l x w hl hu)
  have HB := Lib.hid hb
  obtain ⟨a, ca, rfl, -⟩ := hu
  clear hb
  go_enter Try.func22, Try.ntmps22
  go_wp2_with (go_at_call 37; (with_reducible refine HC.out.mono ?_); rintro e w2 ⟨i, rfl, hw, hi1, hi2, hi3⟩; obtain rfl := hw.symm; have HI := Lib.hid hi3; clear hw hi3)
  go_ret
  refine ⟨ret_bool ?_, rfl⟩
  rw [← HB.out, decide_eq_decide]
  exact HI.out.symm
end
section
open Go.RowKit
def exN7 : List PN := [⟨1, [], 0, 0, 8589934592, 0, 0⟩, ⟨2, [], 0, 0, 0, 0, 0⟩, ⟨3, [0, 1], 0, 0, 0, 0, 0⟩, ⟨0, [], 0, 0, 0, 0, 0⟩, ⟨4, [2, 3], 0, 0, 0, 0, 0⟩]
def exR7 : List PR := [⟨⟨#[65]⟩, 4⟩]
theorem ex7_ord : ordR exN7 exR7 (-1) = true := by kernel_rfl
theorem ex7_kinds : ∀ n, n ∈ exN7 → (0 ≤ n.op ∧ n.op ≤ 9) ∧ WordsOk n ∧ (n.op ≠ 1 → n.s0 = 0 ∧ n.s1 = 0 ∧ n.s2 = 0 ∧ n.s3 = 0) := by
  intro n hn
  simp [exN7] at hn
  rcases hn with rfl | rfl | rfl | rfl | rfl <;> simp [WordsOk]
theorem ex7_calls : ∀ (i : Nat) (n : PN), exN7[i]? = some n → n.op = 2 → 0 ≤ n.rule ∧ n.rule < (exR7.length : Int) := by
  intro i n hn h2
  have hm := List.mem_of_getElem? hn
  simp [exN7] at hm
  rcases hm with rfl | rfl | rfl | rfl | rfl <;> first | (simp at h2; done) | simp [exR7]
theorem ex7_depth : maxL (depsL exN7) = 3 := by kernel_rfl
theorem ex7_leaf : leafN exN7 = 3 := by kernel_rfl
theorem ex7_op1 : opN exN7 1 = 1 := by kernel_rfl
def ex7S : Value := .agg #[.int .i64 1, .int .i64 5, .int .i64 3, .int .i64 3, .int .i64 (opN exN7 0 : Int), .int .i64 1, .int .i64 (opN exN7 2 : Int), .int .i64 (opN exN7 3 : Int), .int .i64 (opN exN7 4 : Int), .int .i64 (opN exN7 5 : Int), .int .i64 (opN exN7 6 : Int), .int .i64 (opN exN7 7 : Int), .int .i64 (opN exN7 8 : Int), .int .i64 (opN exN7 9 : Int)]
theorem ex7_sizes : sizesV 1 exN7.length 3 3 (opN exN7) = ex7S := by unfold sizesV ex7S; rw [ex7_op1]; rfl
theorem ex7_classes : (classL (begP exN7) 256).length = 3 := by
  rw [classL_congr 256 (fun j hj => begP_is (fun n hn => (ex7_kinds n hn).2.2) j hj)]
  kernel_rfl
theorem ex7_callers : callersL exN7 0 = [1] := by kernel_rfl
theorem ex7_byte : byteP exN7 97 = true := by kernel_rfl
theorem ex7_reach0 : reachL exR7 exN7 0 = [0] := by
  unfold reachL
  rw [if_pos ⟨by decide, by decide⟩]
  show memb (rchB (callE exR7 exN7) (0 : Int).toNat) 1 = [0]
  rw [memb_succ, rchB_iff.2 (show Rch (callE exR7 exN7) (0 : Int).toNat 0 from .here)]; rfl
theorem ex7_reach1 : reachL exR7 exN7 1 = [] := by
  unfold reachL
  rw [if_neg (by simp [exR7])]
theorem CallersIs.row {l : List Nat} {w w' : World} {e : Ending} (h : CallersIs l w e w') : ∃ a c, e = .returned (.slice a l.length c) ∧ IntsAt w' (.slice a l.length c) (l.map fun k : Nat => (k : Int)) ∧ Below w.heap.size w w' := by
  obtain ⟨u, rfl, ho, hb⟩ := h
  obtain ⟨a, c, rfl⟩ := own_slice' ho
  refine ⟨a, c, rfl, IntsAt.of_own (base := w.heap.size) ?_, hb⟩
  rw [List.length_map]; exact ho
theorem ex7_at {W : World} {b : Nat} (hR : Bl W b 53 #[.string ⟨#[65]⟩, .int .i64 4]) (h1 : Bl W (b + 1) 3 #[.int .i64 0, .int .i64 1]) (h2 : Bl W (b + 2) 3 #[.int .i64 2, .int .i64 3])
    (hN : Bl W (b + 3) 37 #[.int .i64 1, .slice none 0 0, .int .i64 0, .int .u64 0, .int .u64 8589934592, .int .u64 0, .int .u64 0, .int .i64 2, .slice none 0 0, .int .i64 0, .int .u64 0, .int .u64 0, .int .u64 0, .int .u64 0, .int .i64 3, .slice (some ⟨b + 1, 0, none⟩) 2 2, .int .i64 0, .int .u64 0, .int .u64 0, .int .u64 0, .int .u64 0, .int .i64 0, .slice none 0 0, .int .i64 0, .int .u64 0, .int .u64 0, .int .u64 0, .int .u64 0, .int .i64 4, .slice (some ⟨b + 2, 0, none⟩) 2 2, .int .i64 0, .int .u64 0, .int .u64 0, .int .u64 0, .int .u64 0]) :
    RulesIn W (.slice (some ⟨b, 0, none⟩) 1 1) exR7 ∧ NodesAt W (.slice (some ⟨b + 3, 0, none⟩) 5 5) exN7 := by
  have hi0 : IntsAt W (.slice none 0 0) [] := ⟨none, 0, rfl, .inl rfl⟩
  have hi1 : IntsAt W (.slice (some ⟨b + 1, 0, none⟩) 2 2) [0, 1] := ⟨_, 2, rfl, .inr ⟨b + 1, 0, rfl, fun i x hx => by
    match i, hx with
    | 0, hx => obtain rfl := Option.some.inj hx; exact h1.cell (o := 0) rfl
    | 1, hx => obtain rfl := Option.some.inj hx; exact h1.cell (o := 1) rfl⟩⟩
  have hi2 : IntsAt W (.slice (some ⟨b + 2, 0, none⟩) 2 2) [2, 3] := ⟨_, 2, rfl, .inr ⟨b + 2, 0, rfl, fun i x hx => by
    match i, hx with
    | 0, hx => obtain rfl := Option.some.inj hx; exact h2.cell (o := 0) rfl
    | 1, hx => obtain rfl := Option.some.inj hx; exact h2.cell (o := 1) rfl⟩⟩
  refine ⟨⟨by decide, _, 1, rfl, .inr ⟨b, 0, rfl, fun i r hr => ?_⟩⟩, ⟨by decide, _, 5, rfl, .inr ⟨b + 3, 0, rfl, fun i n hn => ?_⟩⟩⟩
  · match i, hr with
    | 0, hr => obtain rfl := Option.some.inj hr; exact ⟨hR.cell (o := 0) rfl, hR.cell (o := 1) rfl⟩
  · match i, hn with
    | 0, hn => obtain rfl := Option.some.inj hn; exact ⟨_, hN.cell (o := 0) rfl, hN.cell (o := 1) rfl, hN.cell (o := 2) rfl, hN.cell (o := 3) rfl, hN.cell (o := 4) rfl, hN.cell (o := 5) rfl, hN.cell (o := 6) rfl, hi0, by decide⟩
    | 1, hn => obtain rfl := Option.some.inj hn; exact ⟨_, hN.cell (o := 7) rfl, hN.cell (o := 8) rfl, hN.cell (o := 9) rfl, hN.cell (o := 10) rfl, hN.cell (o := 11) rfl, hN.cell (o := 12) rfl, hN.cell (o := 13) rfl, hi0, by decide⟩
    | 2, hn => obtain rfl := Option.some.inj hn; exact ⟨_, hN.cell (o := 14) rfl, hN.cell (o := 15) rfl, hN.cell (o := 16) rfl, hN.cell (o := 17) rfl, hN.cell (o := 18) rfl, hN.cell (o := 19) rfl, hN.cell (o := 20) rfl, hi1, by decide⟩
    | 3, hn => obtain rfl := Option.some.inj hn; exact ⟨_, hN.cell (o := 21) rfl, hN.cell (o := 22) rfl, hN.cell (o := 23) rfl, hN.cell (o := 24) rfl, hN.cell (o := 25) rfl, hN.cell (o := 26) rfl, hN.cell (o := 27) rfl, hi0, by decide⟩
    | 4, hn => obtain rfl := Option.some.inj hn; exact ⟨_, hN.cell (o := 28) rfl, hN.cell (o := 29) rfl, hN.cell (o := 30) rfl, hN.cell (o := 31) rfl, hN.cell (o := 32) rfl, hN.cell (o := 33) rfl, hN.cell (o := 34) rfl, hi2, by decide⟩
theorem ints_one (w : World) (x : Int) : IntsAt (w.alloc (.cells #[.int .i64 x] 3)) (.slice (some ⟨w.heap.size, 0, none⟩) 1 1) [x] :=
  ⟨_, 1, rfl, .inr ⟨w.heap.size, 0, rfl, fun i y hy => by
    match i, hy with
    | 0, hy => obtain rfl := Option.some.inj hy; exact (Bl.new w 3 #[.int .i64 x]).cell (o := 0) rfl⟩⟩
set_option maxHeartbeats 8000000 in
set_option maxRecDepth 100000 in
theorem awake7_any (w : World) : Calls Try.prog 8 #[] w fun e w' => e = .returned (.bool true) ∧ Below w.heap.size w w' := by
  go_enter Try.func8, Try.ntmps8
  go_wp2_with fail
  generalize hW : World.alloc (World.alloc (World.alloc (World.alloc (World.alloc w _) _) _) _) _ = W
  have hb0 : Below w.heap.size w W := by rw [← hW]; exact ((((two_new w _ _).alloc (by simp; omega) _).alloc (by simp; omega) _).alloc (by simp; omega) _)
  obtain ⟨hR, hN⟩ := ex7_at (W := W) (b := w.heap.size) (by rw [← hW]; repeat (first | (refine Bl.new' ?_; simp; done) | refine Bl.past ?_)) (by rw [← hW]; repeat (first | (refine Bl.new' ?_; simp; done) | refine Bl.past ?_)) (by rw [← hW]; repeat (first | (refine Bl.new' ?_; simp; done) | refine Bl.past ?_)) (by rw [← hW]; repeat (first | (refine Bl.new' ?_; simp; done) | refine Bl.past ?_))
  have hG : Bl W (w.heap.size + 4) 25 #[.slice (some ⟨w.heap.size, 0, none⟩) 1 1, .slice (some ⟨w.heap.size + 1 + 1 + 1, 0, none⟩) 5 5] := by rw [← hW]; repeat (first | (refine Bl.new' ?_; simp; done) | refine Bl.past ?_)
  have hx := ex7_kinds
  obtain ⟨n3, hn3⟩ : ∃ n3, w.heap.size + 1 + 1 + 1 = n3 := ⟨_, rfl⟩
  rw [show w.heap.size + 3 = w.heap.size + 1 + 1 + 1 from rfl, hn3] at hN
  rw [hn3] at hG ⊢
  have HOf := Lib.hid (fun (V : World) (hb : Below W.heap.size W V) => (by
    have := mof_any (some ⟨w.heap.size, 0, none⟩) 1 1 (.slice (some ⟨n3, 0, none⟩) 5 5) exN7 V (hN.kept hb (Nat.le_refl _)) (by decide) (ordR_ex ex7_ord).kids (fun n hn => (hx n hn).1)
    rw [ex7_depth, ex7_leaf, ex7_sizes] at this
    exact this : Calls Try.prog 10 #[.agg #[.slice (some ⟨w.heap.size, 0, none⟩) 1 1, .slice (some ⟨n3, 0, none⟩) 5 5]] V fun e w' => e = .returned ex7S ∧ Below V.heap.size V w'))
  unfold ex7S at HOf
  have HRu := Lib.hid (fun (V : World) (hb : Below W.heap.size W V) => (by
    refine (mruns_any (some ⟨w.heap.size, 0, none⟩) 1 1 (.slice (some ⟨n3, 0, none⟩) 5 5) exN7 V (hN.kept hb (Nat.le_refl _)) (by decide) (fun n hn => (hx n hn).2.1)).mono fun e w' h => ?_
    obtain ⟨u, rfl, ho, hb⟩ := h
    obtain ⟨a, c, rfl⟩ := own_slice' ho
    rw [ex7_classes]
    exact ⟨a, c, rfl, hb⟩ : Calls Try.prog 12 #[.agg #[.slice (some ⟨w.heap.size, 0, none⟩) 1 1, .slice (some ⟨n3, 0, none⟩) 5 5]] V fun e w' => ∃ a c, e = .returned (.slice a 3 c) ∧ Below V.heap.size V w'))
  have HCa := Lib.hid (fun (V : World) (hb : Below W.heap.size W V) => (by
    refine (callers_any (some ⟨w.heap.size, 0, none⟩) 1 1 (.slice (some ⟨n3, 0, none⟩) 5 5) exN7 0 V (hN.kept hb (Nat.le_refl _)) (by decide)).mono fun e w' h => ?_
    have := h.row
    rw [ex7_callers] at this
    exact this : Calls Try.prog 21 #[.agg #[.slice (some ⟨w.heap.size, 0, none⟩) 1 1, .slice (some ⟨n3, 0, none⟩) 5 5], .int .i64 0] V fun e w' => ∃ a c, e = .returned (.slice a 1 c) ∧ IntsAt w' (.slice a 1 c) [1] ∧ Below V.heap.size V w'))
  have HR0 := Lib.hid (fun (V : World) (hb : Below W.heap.size W V) => (by
    refine (reach_any (.slice (some ⟨w.heap.size, 0, none⟩) 1 1) (some ⟨n3, 0, none⟩) 5 exR7 exN7 0 V (hR.kept hb (Nat.le_refl _)) (hN.kept hb (Nat.le_refl _)) (by decide) (by decide) (by decide) ex7_ord ex7_calls).mono fun e w' h => ?_
    have := h.row
    rw [ex7_reach0] at this
    exact this : Calls Try.prog 19 #[.agg #[.slice (some ⟨w.heap.size, 0, none⟩) 1 1, .slice (some ⟨n3, 0, none⟩) 5 5], .int .i64 0] V fun e w' => ∃ a c, e = .returned (.slice a 1 c) ∧ IntsAt w' (.slice a 1 c) [0] ∧ Below V.heap.size V w'))
  have HR1 := Lib.hid (fun (V : World) (hb : Below W.heap.size W V) => (by
    refine (reach_any (.slice (some ⟨w.heap.size, 0, none⟩) 1 1) (some ⟨n3, 0, none⟩) 5 exR7 exN7 1 V (hR.kept hb (Nat.le_refl _)) (hN.kept hb (Nat.le_refl _)) (by decide) (by decide) (by decide) ex7_ord ex7_calls).mono fun e w' h => ?_
    have := h.row
    rw [ex7_reach1] at this
    exact this : Calls Try.prog 19 #[.agg #[.slice (some ⟨w.heap.size, 0, none⟩) 1 1, .slice (some ⟨n3, 0, none⟩) 5 5], .int .i64 1] V fun e w' => ∃ a c, e = .returned (.slice a 0 c) ∧ IntsAt w' (.slice a 0 c) [] ∧ Below V.heap.size V w'))
  have HBy := Lib.hid (fun (V : World) (hb : Below W.heap.size W V) => mbytes_any (some ⟨w.heap.size, 0, none⟩) 1 1 (.slice (some ⟨n3, 0, none⟩) 5 5) exN7 V (hN.kept hb (Nat.le_refl _)) (by decide) (fun n hn => (hx n hn).2.1))
  have HHa := Lib.hid (fun (V : World) => (by have := rhas_w (f := byteP exN7) (c := 97) (by decide) V; rw [ex7_byte] at this; exact this : Calls Try.prog 17 #[setV (byteP exN7), .int .u8 97] V fun e w' => e = .returned (.bool true) ∧ Below V.heap.size V w'))
  unfold setV at HBy HHa
  generalize setW (byteP exN7) 0 = s0 at HBy HHa
  generalize setW (byteP exN7) 1 = s1 at HBy HHa
  generalize setW (byteP exN7) 2 = s2 at HBy HHa
  generalize setW (byteP exN7) 3 = s3 at HBy HHa
  generalize opN exN7 0 = o0 at HOf
  generalize opN exN7 2 = o2 at HOf
  generalize opN exN7 3 = o3 at HOf
  generalize opN exN7 4 = o4 at HOf
  generalize opN exN7 5 = o5 at HOf
  generalize opN exN7 6 = o6 at HOf
  generalize opN exN7 7 = o7 at HOf
  generalize opN exN7 8 = o8 at HOf
  generalize opN exN7 9 = o9 at HOf
  rw [show w.heap.size + 4 = n3 + 1 by omega] at hG
  have HG := Lib.hid hG
  have HB0 := Lib.hid hb0
  clear hR hN hx hW hb0 hG hn3
  go_wp2_with (first
    | (go_at_call 10; (with_reducible refine (HOf.out _ (Below.refl _ _)).mono ?_); rintro e w1 ⟨rfl, hb⟩; have HB1 := Lib.hid hb; have g10 : w1.cell? ⟨n3 + 1, 0, none⟩ = some (.slice (some ⟨w.heap.size, 0, none⟩) 1 1) := (HG.out.below HB1.out).cell (o := 0) rfl; have g11 : w1.cell? ⟨n3 + 1, 1, none⟩ = some (.slice (some ⟨n3, 0, none⟩) 5 5) := (HG.out.below HB1.out).cell (o := 1) rfl; have gl1 : n3 + 1 < w1.heap.size := lt_of_cell g10; clear hb)
    | (go_at_call 12; (with_reducible refine (HRu.out _ (HB1.out.alloc HB1.out.size _)).mono ?_); rintro e w2 ⟨a2, c2, rfl, hb⟩; have HB2 := Lib.hid ((HB1.out.alloc HB1.out.size _).trans (hb.mono (HB1.out.alloc HB1.out.size _).size)); have hs2 := (Bl.new w1 30 _).below hb; have t1 := hs2.cell (o := 1) rfl; have t2 := hs2.cell (o := 2) rfl; have t3 := hs2.cell (o := 3) rfl; have t5 := hs2.cell (o := 5) rfl; have g20 : w2.cell? ⟨n3 + 1, 0, none⟩ = some (.slice (some ⟨w.heap.size, 0, none⟩) 1 1) := (HG.out.below HB2.out).cell (o := 0) rfl; have g21 : w2.cell? ⟨n3 + 1, 1, none⟩ = some (.slice (some ⟨n3, 0, none⟩) 5 5) := (HG.out.below HB2.out).cell (o := 1) rfl; have gl2 : n3 + 1 < w2.heap.size := lt_of_cell g20; clear hb hs2)
    | (go_at_call 21; (with_reducible refine (HCa.out _ HB2.out).mono ?_); rintro e w3 ⟨a3, c3, rfl, hi, hb⟩; have HB3 := Lib.hid (HB2.out.trans (hb.mono HB2.out.size)); have HI3 := Lib.hid hi; have g30 : w3.cell? ⟨n3 + 1, 0, none⟩ = some (.slice (some ⟨w.heap.size, 0, none⟩) 1 1) := (HG.out.below HB3.out).cell (o := 0) rfl; have g31 : w3.cell? ⟨n3 + 1, 1, none⟩ = some (.slice (some ⟨n3, 0, none⟩) 5 5) := (HG.out.below HB3.out).cell (o := 1) rfl; have gl3 : n3 + 1 < w3.heap.size := lt_of_cell g30; clear hb hi)
    | (go_at_call 18; (with_reducible refine (intsEq_any _ _ [1] [1] _ (by decide) (HI3.out.kept (one_new w3 _) (Nat.le_refl _)) (ints_one w3 1)).mono ?_); rintro e w4 ⟨rfl, q, hw⟩; have HB4 := Lib.hid (show Below W.heap.size W w4 by rw [hw]; exact below_drewN (HB3.out.alloc HB3.out.size _)); have g40 : w4.cell? ⟨n3 + 1, 0, none⟩ = some (.slice (some ⟨w.heap.size, 0, none⟩) 1 1) := (HG.out.below HB4.out).cell (o := 0) rfl; have g41 : w4.cell? ⟨n3 + 1, 1, none⟩ = some (.slice (some ⟨n3, 0, none⟩) 5 5) := (HG.out.below HB4.out).cell (o := 1) rfl; have gl4 : n3 + 1 < w4.heap.size := lt_of_cell g40; clear hw)
    | (go_at_call 19; (with_reducible refine (HR0.out _ HB4.out).mono ?_); rintro e w5 ⟨a5, c5, rfl, hi, hb⟩; have HB5 := Lib.hid (HB4.out.trans (hb.mono HB4.out.size)); have HI5 := Lib.hid hi; have g50 : w5.cell? ⟨n3 + 1, 0, none⟩ = some (.slice (some ⟨w.heap.size, 0, none⟩) 1 1) := (HG.out.below HB5.out).cell (o := 0) rfl; have g51 : w5.cell? ⟨n3 + 1, 1, none⟩ = some (.slice (some ⟨n3, 0, none⟩) 5 5) := (HG.out.below HB5.out).cell (o := 1) rfl; have gl5 : n3 + 1 < w5.heap.size := lt_of_cell g50; clear hb hi)
    | (go_at_call 18; (with_reducible refine (intsEq_any _ _ [0] [0] _ (by decide) (HI5.out.kept (one_new w5 _) (Nat.le_refl _)) (ints_one w5 0)).mono ?_); rintro e w6 ⟨rfl, q, hw⟩; have HB6 := Lib.hid (show Below W.heap.size W w6 by rw [hw]; exact below_drewN (HB5.out.alloc HB5.out.size _)); have g60 : w6.cell? ⟨n3 + 1, 0, none⟩ = some (.slice (some ⟨w.heap.size, 0, none⟩) 1 1) := (HG.out.below HB6.out).cell (o := 0) rfl; have g61 : w6.cell? ⟨n3 + 1, 1, none⟩ = some (.slice (some ⟨n3, 0, none⟩) 5 5) := (HG.out.below HB6.out).cell (o := 1) rfl; have gl6 : n3 + 1 < w6.heap.size := lt_of_cell g60; clear hw)
    | (go_at_call 19; (with_reducible refine (HR1.out _ HB6.out).mono ?_); rintro e w7 ⟨a7, c7, rfl, hi, hb⟩; have HB7 := Lib.hid (HB6.out.trans (hb.mono HB6.out.size)); have g70 : w7.cell? ⟨n3 + 1, 0, none⟩ = some (.slice (some ⟨w.heap.size, 0, none⟩) 1 1) := (HG.out.below HB7.out).cell (o := 0) rfl; have g71 : w7.cell? ⟨n3 + 1, 1, none⟩ = some (.slice (some ⟨n3, 0, none⟩) 5 5) := (HG.out.below HB7.out).cell (o := 1) rfl; have gl7 : n3 + 1 < w7.heap.size := lt_of_cell g70; clear hb hi)
    | (go_at_call 15; (with_reducible refine (HBy.out _ HB7.out).mono ?_); rintro e w8 ⟨rfl, hb⟩; have HB8 := Lib.hid (HB7.out.trans (hb.mono HB7.out.size)); clear hb)
    | (go_at_call 17; (with_reducible refine (HHa.out _).mono ?_); rintro e w9 ⟨rfl, hb⟩; have HB9 := Lib.hid (HB8.out.trans (hb.mono HB8.out.size)); clear hb))
  go_ret
  exact ⟨rfl, HB0.out.trans (HB9.out.mono HB0.out.size)⟩
end
end Go.Proofs.Ytklimoepkifnhaa
