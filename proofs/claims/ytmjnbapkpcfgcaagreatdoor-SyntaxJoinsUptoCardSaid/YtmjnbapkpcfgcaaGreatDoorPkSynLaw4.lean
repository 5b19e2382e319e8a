/- SyntaxJoins. -/
import Derived.Test.YtmjnbapkpcfgcaaGreatDoorPkZ
import Derived.Test.YtmjnbapkpcfgcaaGreatDoorPkSynLawC
import Derived.Test.YtmjnbapkpcfgcaaGreatDoorPkSynBnd
namespace Go.Proofs.YtmjnbapkpcfgcaaGreatDoor
section
open Go.RowKit
theorem defL_nodes {st : Bool} {F : List Tok → MF → PO} (hG : Grow 0 2 F) {ts a : List Tok} {f g : MF} (h : defL st F ts f = .ok a g) : f.nodes.length ≤ g.nodes.length := by
  unfold defL at h
  split at h
  · obtain ⟨b, k, hb, hk⟩ := bind_ok' h
    have e1 : b = ts.tail ∧ k = f := by
      unfold acc at hb
      split at hb
      · cases hb
      · cases hb; exact ⟨rfl, rfl⟩
    obtain ⟨rfl, rfl⟩ := e1
    split at hk
    · obtain ⟨c, j, hc, hj⟩ := bind_ok' hk
      have e2 : c = ts.tail.tail ∧ j = k := by
        unfold acc at hc
        split at hc
        · cases hc
        · cases hc; exact ⟨rfl, rfl⟩
      obtain ⟨rfl, rfl⟩ := e2
      have hg := hG ts.tail.tail j
      rw [hj] at hg
      exact hg.2.2.1.length_le
    · cases hk
  · cases h
theorem defs_roots {st : Bool} {F : List Tok → MF → PO} (hG : Grow 0 2 F) : ∀ (n : Nat) (ts : List Tok) (f g : MF) (rs rs' : List (List Nat × Nat × Int)), (∀ r ∈ rs, -1 ≤ r.2.2 ∧ r.2.2 ≤ (f.nodes.length : Int)) → defsL st F n ts f rs = .ok rs' g → ∀ r ∈ rs', -1 ≤ r.2.2 ∧ r.2.2 ≤ (g.nodes.length : Int)
  | 0, _, _, _, _, _, _, h => by cases h
  | n + 1, ts, f, g, rs, rs', hr, h => by
    unfold defsL at h
    cases hd : defL st F ts f with
    | bad a dp => rw [hd] at h; cases h
    | ok a k =>
      have hc := defL_nodes hG hd
      rw [hd] at h
      dsimp only at h
      have hr' : ∀ r ∈ rs ++ [(txt ts, pos ts, lastI k)], -1 ≤ r.2.2 ∧ r.2.2 ≤ (k.nodes.length : Int) := fun r hm => by
        rcases List.mem_append.1 hm with hm | hm
        · have := hr r hm
          omega
        · obtain rfl := List.mem_singleton.1 hm
          unfold lastI
          dsimp only
          omega
      by_cases h0 : kd a = 0
      · rw [if_pos h0] at h
        cases h
        exact hr'
      · rw [if_neg h0] at h
        exact defs_roots hG n a k g _ _ hr' h
theorem rfile_roots {l : List Nat} {rs : List (List Nat × Nat × Int)} {f : MF} (h : rfileL l = .ok rs f) : ∀ r ∈ rs, -1 ≤ r.2.2 ∧ r.2.2 ≤ (f.nodes.length : Int) :=
  defs_roots (Gr.expr 200 true) _ _ _ _ _ _ (fun r hr => by cases hr) h
def isBad : FO → Bool
  | .ok _ _ => false
  | .bad _ _ => true
theorem ref_code {O : FO} {base : Nat} {w w' : World} {e : Ending} (h : FinIs base O w e w') : ∃ z0 m0 c0 z1 m1 c1 z2 m2 c2 code at1, e = .returned (.tuple #[.agg #[.slice z0 m0 c0, .slice z1 m1 c1, .slice z2 m2 c2], .int .i64 code, .int .i64 at1]) ∧ (code != 0) = isBad O ∧ Below w.heap.size w w' := by
  cases O with
  | ok rs f =>
    obtain ⟨va, vc, na, nc, ca, cc, qs, rfl, -, -, -, h4⟩ := h
    exact ⟨_, _, _, _, _, _, _, _, _, _, _, rfl, rfl, h4⟩
  | bad a dp =>
    obtain ⟨rfl, h4⟩ := h
    exact ⟨_, _, _, _, _, _, _, _, _, _, _, rfl, by cases dp <;> rfl, h4⟩
set_option maxHeartbeats 8000000 in
set_option maxRecDepth 100000 in
theorem joins_out8 (a b : ByteArray) (w : World) (ha : a.size ≤ 1050000) (hb : b.size ≤ 1050000) (hl : LexLaid w) (h : (500 : Int) < (a.size : Int) ∨ (500 : Int) < (b.size : Int) ∨ isBad (rfileL (bts a)) = true ∨ isBad (rfileL (bts b)) = true) : Calls Tryz.prog 6 #[.string a, .string b] w fun e w' => e = .returned (.bool true) ∧ Below w.heap.size w w' := by
  have HAW := Lib.hid fun (W : World) (hb : Below w.heap.size w W) => awake8_any W (hl.kept hb (Nat.le_refl _))
  have HB0 := Lib.hid (Below.refl w.heap.size w)
  have HX := Lib.hid fun (W : World) (_ : Below w.heap.size w W) => (qParse_any a W ha).mono fun e w' h => ref_code h
  have HY := Lib.hid fun (W : World) (_ : Below w.heap.size w W) => (qParse_any b W hb).mono fun e w' h => ref_code h
  obtain ⟨B1, hB1⟩ : ∃ y, isBad (rfileL (bts a)) = y := ⟨_, rfl⟩
  obtain ⟨B2, hB2⟩ : ∃ y, isBad (rfileL (bts b)) = y := ⟨_, rfl⟩
  rw [hB1] at HX h
  rw [hB2] at HY h
  clear hB1 hB2 ha hb hl
  have h' : (500 : Int) < (a.size : Int) ∨ ((¬ (500 : Int) < (a.size : Int)) ∧ (500 : Int) < (b.size : Int)) ∨ ((¬ (500 : Int) < (a.size : Int)) ∧ (¬ (500 : Int) < (b.size : Int)) ∧ B1 = true) ∨ ((¬ (500 : Int) < (a.size : Int)) ∧ (¬ (500 : Int) < (b.size : Int)) ∧ B1 = false ∧ B2 = true) := by
    by_cases k1 : (500 : Int) < (a.size : Int)
    · exact .inl k1
    · by_cases k2 : (500 : Int) < (b.size : Int)
      · exact .inr (.inl ⟨k1, k2⟩)
      · rcases h with h | h | h | h
        · exact absurd h k1
        · exact absurd h k2
        · exact .inr (.inr (.inl ⟨k1, k2, h⟩))
        · cases B1
          · exact .inr (.inr (.inr ⟨k1, k2, rfl, h⟩))
          · exact .inr (.inr (.inl ⟨k1, k2, rfl⟩))
  clear h
  rcases h' with k1 | ⟨k1, k2⟩ | ⟨k1, k2, rfl⟩ | ⟨k1, k2, rfl, rfl⟩
  all_goals
    go_enter Tryz.func6, Tryz.ntmps6
    go_wp2_with (first
      | (go_at_call 10; (with_reducible refine (HX.out _ HB0.out).mono ?_); rintro e w1 ⟨z0a, m0a, c0a, z1a, m1a, c1a, z2a, m2a, c2a, codea, ata, rfl, hcodea, hb⟩; have hn := one_new w1 (.cells #[.slice z0a m0a c0a, .slice z1a m1a c1a, .slice z2a m2a c2a] 35); have HB1 := Lib.hid ((HB0.out.trans (hb.mono HB0.out.size)).trans (hn.mono (Nat.le_trans HB0.out.size hb.size))); clear hb hn)
      | (go_at_call 10; (with_reducible refine (HY.out _ HB1.out).mono ?_); rintro e w2 ⟨z0b, m0b, c0b, z1b, m1b, c1b, z2b, m2b, c2b, codeb, atb, rfl, hcodeb, hb⟩; have hn := one_new w2 (.cells #[.slice z0b m0b c0b, .slice z1b m1b c1b, .slice z2b m2b c2b] 35); have HB2 := Lib.hid ((HB1.out.trans (hb.mono HB1.out.size)).trans (hn.mono (Nat.le_trans HB1.out.size hb.size))); clear hb hn)
      | (go_at_call 8; (with_reducible refine (HAW.out _ HB3.out).mono ?_); rintro e w4 ⟨rfl, hb⟩; have HB4 := Lib.hid (HB3.out.trans (hb.mono HB3.out.size)); clear hb)
      | (go_at_call 8; (with_reducible refine (HAW.out _ HB2.out).mono ?_); rintro e w3 ⟨rfl, hb⟩; have HB3 := Lib.hid (HB2.out.trans (hb.mono HB2.out.size)); clear hb))
    go_ret
    exact ⟨rfl, HB4.out⟩
set_option maxHeartbeats 16000000 in
set_option maxRecDepth 100000 in
theorem joins_main8 (a b : ByteArray) (w : World) (ha : a.size ≤ 1050000) (hb : b.size ≤ 1050000) (hl : LexLaid w) (ra rb : List (List Nat × Nat × Int)) (fa fb : MF) (hOa : rfileL (bts a) = .ok ra fa) (hOb : rfileL (bts b) = .ok rb fb) (k1 : ¬ (500 : Int) < (a.size : Int)) (k2 : ¬ (500 : Int) < (b.size : Int)) : Calls Tryz.prog 6 #[.string a, .string b] w fun e w' => e = .returned (.bool true) ∧ Below w.heap.size w w' := by
  have HAW := Lib.hid fun (W : World) (hb : Below w.heap.size w W) => awake8_any W (hl.kept hb (Nat.le_refl _))
  have HB0 := Lib.hid (Below.refl w.heap.size w)
  have HX := Lib.hid fun (W : World) (_ : Below w.heap.size w W) => (qParse_any a W ha).mono fun e w' h => fin_ok' (by
    rw [hOa] at h
    exact h)
  have HY := Lib.hid fun (W : World) (_ : Below w.heap.size w W) => (qParse_any b W hb).mono fun e w' h => fin_ok' (by
    rw [hOb] at h
    exact h)
  have HBA := Lib.hid (rfile_bounds ha hOa)
  have HBB := Lib.hid (rfile_bounds hb hOb)
  have HAT := Lib.hid (rfile_at hOb)
  have HRT := Lib.hid (rfile_roots hOb)
  have hj := file_join hOa hOb
  rw [bts_length] at hj
  have en : (⟨#[10]⟩ : ByteArray).size = 1 := rfl
  have hbt : bts (a ++ ⟨#[10]⟩ ++ b) = bts a ++ 10 :: bts b := by
    rw [bts_append, bts_append, List.append_assoc]; rfl
  have hsz : (a ++ ⟨#[10]⟩ ++ b).size ≤ 1050000 := by
    rw [ByteArray.size_append, ByteArray.size_append]; omega
  have s1 : ∀ w, (Op.stringOp .add a ⟨#[10]⟩).run Tryz.prog w = .ok (.string (a ++ ⟨#[10]⟩)) w := fun w => run_string_add_sum w _ _ (by omega)
  have s2 : ∀ w, (Op.stringOp .add (a ++ ⟨#[10]⟩) b).run Tryz.prog w = .ok (.string (a ++ ⟨#[10]⟩ ++ b)) w := fun w => run_string_add_sum w _ _ (by rw [ByteArray.size_append]; omega)
  rw [← hbt] at hj
  obtain ⟨R, hR⟩ : ∃ y, ra ++ mvR (a.size + 1) fa.nodes.length rb = y := ⟨_, rfl⟩
  obtain ⟨G, hGG⟩ : ∃ y, phi (a.size + 1) fa.nodes fa.calls fb = y := ⟨_, rfl⟩
  rw [hR, hGG] at hj
  have l1 : R.length = ra.length + rb.length := by rw [← hR, List.length_append]; unfold mvR; rw [List.length_map]
  have l2 : G.nodes.length = fa.nodes.length + fb.nodes.length := by rw [← hGG]; exact phi_length _
  have l3 : G.calls.length = fa.calls.length + fb.calls.length := by rw [← hGG]; exact phi_calls _
  obtain ⟨n1, hn1⟩ : ∃ y, R.length = y := ⟨_, rfl⟩
  obtain ⟨n2, hn2⟩ : ∃ y, G.nodes.length = y := ⟨_, rfl⟩
  obtain ⟨n3, hn3⟩ : ∃ y, G.calls.length = y := ⟨_, rfl⟩
  have HZ := Lib.hid fun (W : World) (hb : Below w.heap.size w W) => (pParse_any (a ++ ⟨#[10]⟩ ++ b) W (hl.2.kept hb (Nat.le_refl _)) hsz).mono fun e w' h => (show ∃ za zac zn znc zc zcc, e = .returned (.tuple #[.agg #[.slice za n1 zac, .slice zn n2 znc, .slice zc n3 zcc], .nilIface]) ∧ FileIn w' (.slice za n1 zac) (.slice zn n2 znc) (.slice zc n3 zcc) R G ∧ Below W.heap.size W w' from by
    rw [fileL_eq, hj] at h
    obtain ⟨va, vc, na, nc, ca, cc, k1, k2, k3⟩ := parse_ok h
    unfold GotF at k2
    rw [hn1, hn2, hn3] at k1 k2
    exact ⟨va, vc, na, nc, ca, cc, k1, k2, k3⟩)
  rw [hn1] at l1
  rw [hn2] at l2
  rw [hn3] at l3
  obtain ⟨S1, hS1⟩ : ∃ y, a ++ ⟨#[10]⟩ = y := ⟨_, rfl⟩
  rw [hS1] at HZ s1 s2
  obtain ⟨S2, hS2⟩ : ∃ y, S1 ++ b = y := ⟨_, rfl⟩
  rw [hS2] at HZ s2
  have HR := Lib.hid hR
  have HGG := Lib.hid hGG
  have HN1 := Lib.hid hn1
  have HN2 := Lib.hid hn2
  have HL1 := Lib.hid l1
  have HL2 := Lib.hid l2
  have HL3 := Lib.hid l3
  have HK1 := Lib.hid k1
  clear hOa hOb ha hb hl hj hbt hsz en hR hGG l1 l2 l3 hn1 hn2 hn3 hS1 hS2
  go_enter Tryz.func6, Tryz.ntmps6
  go_upto_region 6 with (first
    | (go_at_call 10; (with_reducible refine (HX.out _ HB0.out).mono ?_); rintro e w1 ⟨xa, xac, xn, xnc, xc, xcc, rfl, hG, hb⟩; have hn := one_new w1 (.cells #[.slice xa ra.length xac, .slice xn fa.nodes.length xnc, .slice xc fa.calls.length xcc] 35); have hbn := hb.trans (hn.mono hb.size); have GX1 := Lib.hid (hG.below hn); have FX1 := Lib.hid (Bl.new w1 35 #[.slice xa ra.length xac, .slice xn fa.nodes.length xnc, .slice xc fa.calls.length xcc]); have HB1 := Lib.hid (HB0.out.trans (hbn.mono HB0.out.size)); clear hG hb hn hbn)
    | (go_at_call 10; (with_reducible refine (HY.out _ HB1.out).mono ?_); rintro e w2 ⟨ya, yac, yn, ync, yc, ycc, rfl, hG, hb⟩; have hn := one_new w2 (.cells #[.slice ya rb.length yac, .slice yn fb.nodes.length ync, .slice yc fb.calls.length ycc] 35); have hbn := hb.trans (hn.mono hb.size); have GY2 := Lib.hid (hG.below hn); have FY2 := Lib.hid (Bl.new w2 35 #[.slice ya rb.length yac, .slice yn fb.nodes.length ync, .slice yc fb.calls.length ycc]); have GX2 := Lib.hid (GX1.out.below hbn); have FX2 := Lib.hid (FX1.out.below hbn); have HB2 := Lib.hid (HB1.out.trans (hbn.mono HB1.out.size)); clear hG hb hn hbn)
    | (go_at_call 8; (with_reducible refine (HAW.out _ HB2.out).mono ?_); rintro e w3 ⟨rfl, hb⟩; have GX3 := Lib.hid (GX2.out.below hb); have FX3 := Lib.hid (FX2.out.below hb); have GY3 := Lib.hid (GY2.out.below hb); have FY3 := Lib.hid (FY2.out.below hb); have HB3 := Lib.hid (HB2.out.trans (hb.mono HB2.out.size)); clear hb)
    | (go_at_call 9; (with_reducible refine (HZ.out _ HB3.out).mono ?_); rintro e w4 ⟨za, zac, zn, znc, zc, zcc, rfl, hG, hb⟩; have hn := one_new w4 (.cells #[.slice za n1 zac, .slice zn n2 znc, .slice zc n3 zcc] 27); have hbn := hb.trans (hn.mono hb.size); have GZ5 := Lib.hid (hG.below hn); have FZ5 := Lib.hid (Bl.new w4 27 #[.slice za n1 zac, .slice zn n2 znc, .slice zc n3 zcc]); have GX5 := Lib.hid (GX3.out.below hbn); have FX5 := Lib.hid (FX3.out.below hbn); have GY5 := Lib.hid (GY3.out.below hbn); have FY5 := Lib.hid (FY3.out.below hbn); have HB5 := Lib.hid (HB3.out.trans (hbn.mono HB3.out.size)); clear hG hb hn hbn))
  obtain ⟨W5, hW5⟩ : ∃ W5, w4.alloc (.cells #[.slice za n1 zac, .slice zn n2 znc, .slice zc n3 zcc] 27) = W5 := ⟨_, rfl⟩
  obtain ⟨F1, hF1⟩ : ∃ F1, w1.heap.size = F1 := ⟨_, rfl⟩
  obtain ⟨F2, hF2⟩ : ∃ F2, w2.heap.size = F2 := ⟨_, rfl⟩
  obtain ⟨F3, hF3⟩ : ∃ F3, w4.heap.size = F3 := ⟨_, rfl⟩
  rw [hW5] at GX5 GY5 GZ5 FX5 FY5 FZ5 HB5
  rw [hF1] at FX5
  rw [hF2] at FY5
  rw [hF3] at FZ5
  rw [hW5, hF1, hF2, hF3]
  clear hW5 hF1 hF2 hF3 GX2 FX2 GX3 FX3 GY3 FY3 HB1 HB2 HB3 HX HY HZ HAW GX1 FX1 GY2 FY2 s1 s2
  have f0 := FX5.out.cell (o := 0) (u := .slice xa ra.length xac) rfl
  have f1 := FX5.out.cell (o := 1) (u := .slice xn fa.nodes.length xnc) rfl
  have f2 := FX5.out.cell (o := 2) (u := .slice xc fa.calls.length xcc) rfl
  have g0 := FY5.out.cell (o := 0) (u := .slice ya rb.length yac) rfl
  have g1 := FY5.out.cell (o := 1) (u := .slice yn fb.nodes.length ync) rfl
  have g2 := FY5.out.cell (o := 2) (u := .slice yc fb.calls.length ycc) rfl
  have h0 := FZ5.out.cell (o := 0) (u := .slice za n1 zac) rfl
  have h1 := FZ5.out.cell (o := 1) (u := .slice zn n2 znc) rfl
  have h2 := FZ5.out.cell (o := 2) (u := .slice zc n3 zcc) rfl
  have fl := FX5.out.lt
  have gl := FY5.out.lt
  have hl := FZ5.out.lt
  have hzl : n2 ≤ 9223372036854775807 := by have h := GZ5.out.2.2.1.1; rw [HN2.out] at h; unfold maxLen at h; omega
  have e1 : IntKind.i64.wrap ((ra.length : Int) + (rb.length : Int)) = (n1 : Int) := by
    have := HL1.out; have := HBA.out.1; have := HBB.out.1
    rw [show (ra.length : Int) + (rb.length : Int) = (n1 : Int) by omega]
    exact IntWalk.i64_in _ (by omega)
  have e2 : IntKind.i64.wrap ((fa.nodes.length : Int) + (fb.nodes.length : Int)) = (n2 : Int) := by
    have := HL2.out
    rw [show (fa.nodes.length : Int) + (fb.nodes.length : Int) = (n2 : Int) by omega]
    exact IntWalk.i64_in _ (by omega)
  have e3 : IntKind.i64.wrap ((fa.calls.length : Int) + (fb.calls.length : Int)) = (n3 : Int) := by
    have := HL3.out; have := HBA.out.2; have := HBB.out.2
    rw [show (fa.calls.length : Int) + (fb.calls.length : Int) = (n3 : Int) by omega]
    exact IntWalk.i64_in _ (by omega)
  go_wp2
  clear f0 f1 f2 g0 g1 g2 h0 h1 h2 fl gl hl e1 e2 e3
  go_loopw [13] (fun c wr => ∃ k : Nat, k ≤ rb.length ∧ c = .int .i64 k ∧ Below W5.heap.size W5 wr) (fun c _ => rb.length - (intOf c).toNat)
  case atStart => exact ⟨0, Nat.zero_le _, rfl, Below.refl _ _⟩
  case round =>
    obtain ⟨k, hk, rfl, hbw⟩ := hrel
    have HW := Lib.hid hbw
    have hbd := HBB.out.1
    have f0 := (FX5.out.below hbw).cell (o := 0) (u := .slice xa ra.length xac) rfl
    have g0 := (FY5.out.below hbw).cell (o := 0) (u := .slice ya rb.length yac) rfl
    have h0 := (FZ5.out.below hbw).cell (o := 0) (u := .slice za n1 zac) rfl
    have fl := (FX5.out.below hbw).lt
    have gl := (FY5.out.below hbw).lt
    have hl := (FZ5.out.below hbw).lt
    by_cases hlt : k < rb.length
    · obtain ⟨y, hy⟩ : ∃ y, rb[k]? = some y := ⟨_, List.getElem?_eq_getElem hlt⟩
      obtain ⟨m, hm⟩ : ∃ m, ra.length + k = m := ⟨_, rfl⟩
      have hm1 : (m : Int) < (n1 : Int) := by have := HL1.out; omega
      have hR : R[m]? = some (y.1, y.2.1 + (a.size + 1), y.2.2 + (fa.nodes.length : Int)) := by
        rw [← HR.out, ← hm, List.getElem?_append_right (by omega), Nat.add_sub_cancel_left]
        unfold mvR
        rw [List.getElem?_map, hy]
        rfl
      have hcy := GY5.out.2.1.src
      have hcz0 := GZ5.out.2.1
      rw [HN1.out] at hcz0
      have hcz1 := hcz0.src
      clear hcz0
      rcases hcy with hz | ⟨ab, ao, rfl, hcy⟩
      · rw [hz] at hlt; exact absurd hlt (Nat.not_lt_zero _)
      rcases hcz1 with hz | ⟨bb, bo, rfl, hcz⟩
      · rw [hz] at hm1; exact absurd hm1 (by omega)
      obtain ⟨z0, z1, z2, z3⟩ := def_cells hcz hR hbw
      have HCY := Lib.hid (fun (W : World) (hb : Below W5.heap.size W5 W) => def_cells hcy hy hb)
      have v0 : IntKind.i64.wrap ((ra.length : Int) + (k : Int)) = (m : Int) := by
        have := HBA.out.1
        rw [show (ra.length : Int) + (k : Int) = (m : Int) by omega]
        exact IntWalk.i64_in _ (by omega)
      have j1 : (k : Int) < (rb.length : Int) := by omega
      have HY := Lib.hid hy
      obtain ⟨dt, hdt⟩ : ∃ z, ((y.2.1 + (a.size + 1) : Nat) : Int) = z := ⟨_, rfl⟩
      obtain ⟨rt, hrt⟩ : ∃ z, y.2.2 + (fa.nodes.length : Int) = z := ⟨_, rfl⟩
      have HDT := Lib.hid hdt
      have HRT2 := Lib.hid hrt
      dsimp only at z0 z1 z2
      rw [hdt] at z1
      rw [hrt] at z2
      clear hcy hcz hy hR hbw hm hdt hrt
      go_upto_region 12 with fail
      have hn := one_new wr (.cells #[.string (strOf y.1), .int .i64 dt, .int .i64 rt] 49)
      obtain ⟨W2, hW2⟩ : ∃ W2, wr.alloc (.cells #[.string (strOf y.1), .int .i64 dt, .int .i64 rt] 49) = W2 := ⟨_, rfl⟩
      have u0 : W2.cell? ⟨wr.heap.size, 0, none⟩ = some (.string (strOf y.1)) := by rw [← hW2]; simp
      have u1 : W2.cell? ⟨wr.heap.size, 1, none⟩ = some (.int .i64 dt) := by rw [← hW2]; simp
      have u2 : W2.cell? ⟨wr.heap.size, 2, none⟩ = some (.int .i64 rt) := by rw [← hW2]; simp
      have ul : wr.heap.size < W2.heap.size := by rw [← hW2]; simp
      rw [hW2] at hn ⊢
      have hb2 := HW.out.trans (hn.mono HW.out.size)
      obtain ⟨y0, y1, y2, y3⟩ := HCY.out W2 hb2
      clear f0 g0 h0 fl gl hl z0 z1 z2 z3 hW2 hn
      have f1 := (FX5.out.below hb2).cell (o := 1) (u := .slice xn fa.nodes.length xnc) rfl
      have g0 := (FY5.out.below hb2).cell (o := 0) (u := .slice (some ⟨ab, ao, none⟩) rb.length yac) rfl
      have fl := (FX5.out.below hb2).lt
      have gl := (FY5.out.below hb2).lt
      have HB2 := Lib.hid hb2
      have hat := HAT.out.1 y (List.mem_of_getElem? HY.out)
      have hrt := HRT.out y (List.mem_of_getElem? HY.out)
      rw [bts_length] at hat
      have hn2 : n2 ≤ 9223372036854775807 := hzl
      obtain ⟨p1, hp1⟩ : ∃ p, (y.2.1 : Int) + (a.size : Int) = p := ⟨_, rfl⟩
      have v1 : IntKind.i64.wrap ((y.2.1 : Int) + (a.size : Int)) = p1 := by rw [hp1]; exact IntWalk.i64_in _ (by omega)
      have v2 : IntKind.i64.wrap (p1 + 1) = dt := by
        rw [show p1 + 1 = dt by have := HDT.out; omega]
        exact IntWalk.i64_in _ (by have := HDT.out; omega)
      have v3 : IntKind.i64.wrap (y.2.2 + (fa.nodes.length : Int)) = rt := by
        rw [HRT2.out]
        exact IntWalk.i64_in _ (by have := HRT2.out; have := HL2.out; omega)
      obtain ⟨at0, ha0⟩ : ∃ z, (y.2.1 : Int) = z := ⟨_, rfl⟩
      obtain ⟨rt0, hr0⟩ : ∃ z, y.2.2 = z := ⟨_, rfl⟩
      obtain ⟨st0, hs0⟩ : ∃ z, strOf y.1 = z := ⟨_, rfl⟩
      rw [ha0] at y1 v1
      rw [hr0] at y2 v3
      rw [hs0] at y0 u0
      clear hat hrt hn2 hp1 ha0 hr0 hb2 HCY HDT HRT2
      go_quiet (fail)
      go_wp2
      go_roundw
      case rel => exact ⟨k + 1, by omega, by go_num, below_drewN HB2.out⟩
      case measure => simp [intOf]; omega
    · have j1 : ¬ (k : Int) < (rb.length : Int) := by omega
      clear hbw hk hlt
      go_wp2
      clear f0 g0 h0 fl gl hl j1
      obtain ⟨w9, hw9⟩ : ∃ w9, w9 = wr := ⟨_, rfl⟩
      rw [← hw9] at HW ⊢
      clear hw9
      go_loopw [15] (fun c wq => ∃ k : Nat, k ≤ fa.nodes.length ∧ c = .int .i64 k ∧ Below W5.heap.size W5 wq) (fun c _ => fa.nodes.length - (intOf c).toNat)
      case atStart => exact ⟨0, Nat.zero_le _, rfl, HW.out⟩
      case round =>
        clear HW
        obtain ⟨k, hk, rfl, hbw⟩ := hrel
        have HW := Lib.hid hbw
        have hzl2 := hzl
        have hl2 := HL2.out
        have f1 := (FX5.out.below hbw).cell (o := 1) (u := .slice xn fa.nodes.length xnc) rfl
        have h1 := (FZ5.out.below hbw).cell (o := 1) (u := .slice zn n2 znc) rfl
        have fl := (FX5.out.below hbw).lt
        have hl := (FZ5.out.below hbw).lt
        by_cases hlt : k < fa.nodes.length
        · obtain ⟨x, hx⟩ : ∃ x, fa.nodes[k]? = some x := ⟨_, List.getElem?_eq_getElem hlt⟩
          have hgx : G.nodes[k]? = some x := by
            rw [← HGG.out]
            show (fa.nodes ++ _)[k]? = some x
            rw [List.getElem?_append_left hlt, hx]
          obtain ⟨-, a2, c2, es, hnx⟩ := GX5.out.2.2.1
          injection es with es1 es2 es3
          subst es1 es3
          obtain ⟨-, b2, d2, es, hnz⟩ := GZ5.out.2.2.1
          injection es with es1 es2 es3
          subst es1 es3
          rcases hnx with hz | ⟨ab, ao, rfl, hca⟩
          · rw [hz] at hlt; exact absurd hlt (Nat.not_lt_zero _)
          rcases hnz with hz | ⟨bb, bo, rfl, hcb⟩
          · rw [hz] at hgx; cases hgx
          obtain ⟨kv, c0, c1', c2', c3', c4, c5, c6, ci, cl⟩ := (hca k x hx).kept hbw (Nat.le_refl _)
          obtain ⟨kv', d0, d1', d2', d3', d4, d5, d6, di, -⟩ := (hcb k x hgx).kept hbw (Nat.le_refl _)
          have j1 : (k : Int) < (fa.nodes.length : Int) := by omega
          have j2 : (k : Int) < (n2 : Int) := by omega
          have la := lt_of_cell c0
          have lb := lt_of_cell d0
          clear hca hcb hx hgx hbw ci di es2 hl2
          have HS := Lib.hid (show ∀ w, (binOp .neq 53 (.agg #[.int .u64 x.s0, .int .u64 x.s1, .int .u64 x.s2, .int .u64 x.s3]) (.agg #[.int .u64 x.s0, .int .u64 x.s1, .int .u64 x.s2, .int .u64 x.s3])).run Tryz.prog w = .ok (.bool false) w from fun w => by rw [gneq_set]; simp)
          go_wp2
          refine wp_region_quiet_lit (by kernel_rfl) (by kernel_rfl) ?_
          repeat (first
            | (with_reducible refine gwpQuiet_agg BinOp.neq 53 _ _ _ rfl rfl _ _ rfl rfl ggt_set _ HS.out ?_)
            | quiet_step (fail))
          refine wpQuiet_nil ?_
          intro _ hw'
          obtain ⟨nq, hw''⟩ := hw'
          subst hw''
          go_wp2
          go_roundw
          case rel => exact ⟨k + 1, by omega, by go_num, below_drewN HW.out⟩
          case measure => simp [intOf]; omega
        · have j1 : ¬ (k : Int) < (fa.nodes.length : Int) := by omega
          clear hbw
          go_wp2
          go_ret
          exact ⟨rfl, HB5.out.trans (HW.out.mono HB5.out.size)⟩
set_option maxHeartbeats 8000000 in
theorem law8_joins (a b : ByteArray) (w : World) (ha : a.size ≤ 1050000) (hb : b.size ≤ 1050000) (hl : LexLaid w) : Calls Tryz.prog 6 #[.string a, .string b] w fun e w' => e = .returned (.bool true) ∧ Below w.heap.size w w' := by
  by_cases k1 : (500 : Int) < (a.size : Int)
  · exact joins_out8 a b w ha hb hl (.inl k1)
  by_cases k2 : (500 : Int) < (b.size : Int)
  · exact joins_out8 a b w ha hb hl (.inr (.inl k2))
  cases hOa : rfileL (bts a) with
  | bad t dp => exact joins_out8 a b w ha hb hl (.inr (.inr (.inl (by rw [hOa]; rfl))))
  | ok ra fa =>
    cases hOb : rfileL (bts b) with
    | bad t dp => exact joins_out8 a b w ha hb hl (.inr (.inr (.inr (by rw [hOb]; rfl))))
    | ok rb fb => exact joins_main8 a b w ha hb hl ra rb fa fb hOa hOb k1 k2
end
end Go.Proofs.YtmjnbapkpcfgcaaGreatDoor
