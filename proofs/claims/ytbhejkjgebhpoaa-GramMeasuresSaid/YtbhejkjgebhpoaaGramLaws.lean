/- The walks of the laws GramSpans and GramMeasures. -/
import Derived.Test.YtbhejkjgebhpoaaGramAwake
namespace Go.Proofs.Ytbhejkjgebhpoaa
open Go.RowKit
theorem okB_ok {c : Chk} (h : okB c = true) : c = .ok := by cases c <;> first | rfl | cases h
theorem ord_pos {ns : List PN} {rs : List PR} (h : ordR ns rs (-1) = true) (h0 : 0 < rs.length) : 0 < ns.length := by
  cases rs with
  | nil => cases h0
  | cons r t => have := ordR_cons h; omega
/-- The kids of a node in order: where each begins, and where the last one ends. -/
theorem spans_kid {ns : List PN} {i p : Nat} {n : PN} {k : Int} (hA : exL ns i ≠ -2) (hn : ns[i]? = some n) (hk : n.kids[p]? = some k) : exL ns k ≠ -2 ∧ fstL ns k = (if p = 0 then fstL ns i else n.kids.getD (p - 1) 0 + 1) := by
  have hq := exL_eq ns (i : Int) (by omega)
  rw [show (i : Int).toNat = i by omega, kidsAt_some hn] at hq
  have := chain_spans n.kids.reverse _ (exL ns i) hq.symm hA p k (by rw [List.reverse_reverse]; exact hk)
  rw [List.reverse_reverse] at this
  refine ⟨this.1, ?_⟩
  unfold fstL
  rw [this.2]
  by_cases h0 : p = 0
  · rw [if_pos h0, if_pos h0]
  · rw [if_neg h0, if_neg h0]
theorem spans_end {ns : List PN} {i : Nat} {n : PN} (hA : exL ns i ≠ -2) (hn : ns[i]? = some n) : (if n.kids.length = 0 then fstL ns i else n.kids.getD (n.kids.length - 1) 0 + 1) = (i : Int) := by
  have hq := exL_eq ns (i : Int) (by omega)
  rw [show (i : Int).toNat = i by omega, kidsAt_some hn] at hq
  by_cases h0 : n.kids.length = 0
  · rw [if_pos h0]
    exact fstL_nil (by omega) (by rw [show (i : Int).toNat = i by omega, kidsAt_some hn]; exact List.length_eq_zero_iff.1 h0)
  · rw [if_neg h0]
    rw [hq] at hA
    have hlast : n.kids.reverse = n.kids.getD (n.kids.length - 1) 0 :: n.kids.reverse.tail := by
      have h1 : n.kids.reverse[0]? = some (n.kids.getD (n.kids.length - 1) 0) := by
        rw [List.getElem?_reverse (by omega)]
        simp only [List.getD, Nat.sub_zero]
        rw [List.getElem?_eq_getElem (by omega)]; rfl
      cases hr : n.kids.reverse with
      | nil => rw [hr] at h1; simp at h1
      | cons a l => rw [hr] at h1; simp at h1; rw [List.tail_cons, h1]; rfl
    rw [hlast] at hA
    have := (chainL_cons hA).1
    omega
theorem boxK {n G : Nat} {x0 x1 : Value} {w W W' : World} (hn : n ≤ w.heap.size) (hb : Below W.heap.size W W') (h : W.cell? ⟨G, 0, none⟩ = some x0 ∧ W.cell? ⟨G, 1, none⟩ = some x1 ∧ Below n w W) : W'.cell? ⟨G, 0, none⟩ = some x0 ∧ W'.cell? ⟨G, 1, none⟩ = some x1 ∧ Below n w W' := by
  obtain ⟨h0, h1, h2⟩ := h
  have hc := (bcell hb).1
  exact ⟨by rw [hc _ _ (lt_of_cell h0)]; exact h0, by rw [hc _ _ (lt_of_cell h1)]; exact h1, h2.trans (hb.mono (Nat.le_trans hn h2.size))⟩
set_option maxHeartbeats 8000000 in
set_option maxRecDepth 100000 in
theorem spans_any (hA : GramAwake) (rv nv : Value) (rs : List PR) (ns : List PN) (a : Nat) (w : World) (hR : RulesIn w rv rs) (hN : NodesAt w nv ns) (ha : a ≤ 65535) :
    Calls Try.prog 5 #[.agg #[rv, nv], .int .u16 (a : Int)] w fun e w' => e = .returned (.bool true) ∧ Below w.heap.size w w' := by
  unfold GramAwake at hA
  have HA := Lib.hid hA
  have HS := Lib.hid (fun (W : World) (hb : Below w.heap.size w W) => rsmall_any rv nv rs ns W (hR.kept hb (Nat.le_refl _)) (hN.kept hb (Nat.le_refl _)))
  have HR := Lib.hid hR
  have HN := Lib.hid hN
  have HB1 := Lib.hid (one_new w)
  clear hA
  cases hsm : (fewB rs ns && okB (chkL rs ns)) with
  | false =>
    rw [hsm] at HS
    obtain ⟨-, ra, rc, rfl, -⟩ := hR
    obtain ⟨-, na, nc, rfl, -⟩ := hN
    clear hsm
    go_enter Try.func5, Try.ntmps5
    go_upto_region 2 with (first
      | (go_at_call 6; (with_reducible refine (HA.out _).mono ?_); rintro e w2 ⟨rfl, hb⟩; have HW := Lib.hid ((one_new w _).trans (hb.mono (one_new w _).size)); have b0 := (bcell hb).1 w.heap.size 0 (by simp); have b1 := (bcell hb).1 w.heap.size 1 (by simp); simp at b0 b1; clear hb)
      | (go_at_call 7; (with_reducible refine (HS.out _ HW.out).mono ?_); rintro e w3 ⟨rfl, hb⟩; replace HW := Lib.hid (HW.out.trans (hb.mono HW.out.size)); clear hb))
    go_wp2_with (go_at_call 6; (with_reducible refine (HA.out _).mono ?_); rintro e w4 ⟨rfl, hb⟩; replace HW := Lib.hid (HW.out.trans (hb.mono HW.out.size)); clear hb)
    go_ret
    exact ⟨rfl, HW.out⟩
  | true =>
    have hfw : fewB rs ns = true := by rw [Bool.and_eq_true] at hsm; exact hsm.1
    have hok : chkL rs ns = .ok := okB_ok (by rw [Bool.and_eq_true] at hsm; exact hsm.2)
    rw [hsm] at HS
    obtain ⟨-, hkid, hrl, hnl⟩ := fewB_yes hfw
    obtain ⟨-, -, hr0, -, -, hord, hdep⟩ := chkL_ok hok
    have hn0 := ord_pos hord hr0
    have hex := ordR_ex hord
    obtain ⟨i, hi⟩ : ∃ i : Nat, (a : Int) % (ns.length : Int) = (i : Int) := ⟨((a : Int) % (ns.length : Int)).toNat, by have := Int.emod_nonneg (a : Int) (b := (ns.length : Int)) (by omega); omega⟩
    have hil : i < ns.length := by have := Int.emod_lt_of_pos (a : Int) (b := (ns.length : Int)) (by omega); omega
    obtain ⟨n, hn⟩ : ∃ n, ns[i]? = some n := ⟨_, List.getElem?_eq_getElem hil⟩
    have hxi := hex (i : Int) (by omega) (by omega)
    have hli := exL_lt ns i hxi
    have hown := ownL_ord rs (-1) (by omega) hord (i : Int) (by omega) (by omega)
    have hkb := hex.kids i n hn
    have hsp : ∀ p k, n.kids[p]? = some k → exL ns k ≠ -2 ∧ fstL ns k = (if p = 0 then fstL ns i else n.kids.getD (p - 1) 0 + 1) := fun p k h => spans_kid hxi hn h
    have hend := spans_end hxi hn
    have HFI := Lib.hid (fun (W : World) (hb : Below w.heap.size w W) (ra : Option Addr) (rn rc j : Nat) (hj : j < ns.length) => first_any ra rn rc nv ns j W (HN.out.kept hb (Nat.le_refl _)) hj (hex (j : Int) (by omega) (by omega)))
    have HOW := Lib.hid (fun (W : World) (hb : Below w.heap.size w W) (na : Option Addr) (nn nc : Nat) (x : Int) => owner_any rv na nn nc rs x W (by omega) (HR.out.kept hb (Nat.le_refl _)) (-1) (ordR_up rs (-1) hord))
    have HSP := Lib.hid hsp
    have HEND := Lib.hid hend
    have hkl := hkid n (List.mem_of_getElem? hn)
    have HKB := Lib.hid hkb
    have hfl : -1 ≤ fstL ns i ∧ fstL ns i ≤ 1000 := by unfold fstL; omega
    have HOQ : Hid (ownL rs (fstL ns i) = ownL rs (i : Int)) := Lib.hid hown.2
    obtain ⟨-, ra, rc, rfl, -⟩ := hR
    obtain ⟨-, na, nc, rfl, hna⟩ := hN
    rcases hna with h1 | ⟨nb, no, rfl, hca⟩
    · rw [h1] at hil; exact absurd hil (Nat.not_lt_zero _)
    have hNI := hca i n hn
    have HNI := Lib.hid hNI
    have hnz : ¬ (ns.length : Int) = 0 := by omega
    have hnp : (0 : Int) < (ns.length : Int) := by omega
    have qz : ((ns.length : Int) == 0) = false := ibeq_no (by omega)
    clear hsm hfw hok hkid hdep hex hord hown hkb hsp hend hNI hca hxi hli hn
    go_enter Try.func5, Try.ntmps5
    go_upto_region 3 with (first
      | (go_at_call 6; (with_reducible refine (HA.out _).mono ?_); rintro e w2 ⟨rfl, hb⟩; have HW := Lib.hid ((one_new w _).trans (hb.mono (one_new w _).size)); have b0 := (bcell hb).1 w.heap.size 0 (by simp); have b1 := (bcell hb).1 w.heap.size 1 (by simp); simp at b0 b1; clear hb)
      | (go_at_call 7; (with_reducible refine (HS.out _ HW.out).mono ?_); rintro e w3 ⟨rfl, hb⟩; replace HW := Lib.hid (HW.out.trans (hb.mono HW.out.size)); have d0 := (bcell hb).1 _ 0 (lt_of_cell b0); have d1 := (bcell hb).1 _ 1 (lt_of_cell b1); rw [b0] at d0; rw [b1] at d1; clear hb b0 b1))
    go_upto_region 5 with (go_at_call 9; (with_reducible refine (HFI.out _ HW.out ra rs.length rc i hil).mono ?_); rintro e w4 ⟨rfl, hb⟩; replace HW := Lib.hid (HW.out.trans (hb.mono HW.out.size)); have e0 := (bcell hb).1 _ 0 (lt_of_cell d0); have e1 := (bcell hb).1 _ 1 (lt_of_cell d1); rw [d0] at e0; rw [d1] at e1; clear hb d0 d1)
    obtain ⟨f, hf⟩ : ∃ f, fstL ns i = f := ⟨_, rfl⟩
    rw [hf] at HSP HEND hfl HOQ ⊢
    have hnn : ∀ (W : World), Below w.heap.size w W → NodeAt W nb (no + i * 7) n := fun W hb => HNI.out.kept hb (Nat.le_refl _)
    have HNN := Lib.hid hnn
    have HF := Lib.hid hf
    clear hf hnn
    go_wp2
    go_loopw [6, 7] (fun vx vk wr => ∃ (k : Nat) (x : Int), k ≤ n.kids.length ∧ vx = .int .i64 x ∧ vk = .int .i64 k ∧ x = (if k = 0 then f else n.kids.getD (k - 1) 0 + 1) ∧ Below w.heap.size w wr ∧ wr.cell? ⟨w.heap.size, 0, none⟩ = some (.slice ra rs.length rc) ∧ wr.cell? ⟨w.heap.size, 1, none⟩ = some (.slice (some ⟨nb, no, none⟩) ns.length nc)) (fun _ vk _ => n.kids.length - (intOf vk).toNat)
    case atStart => exact ⟨0, f, Nat.zero_le _, rfl, rfl, rfl, HW.out, e0, e1⟩
    case round =>
      obtain ⟨k, x, hk, rfl, rfl, hx, hbw, b0, b1⟩ := hrel
      have HX := Lib.hid hx
      have HW2 := Lib.hid hbw
      obtain ⟨kv, c0, c1, -, -, -, -, -, ci, -⟩ := HNN.out wr hbw
      have CI := Lib.hid ci
      obtain ⟨ka, kc, rfl, -⟩ := ci
      have k1 : (i : Int) < (ns.length : Int) := by omega
      clear hx hbw c0 HW e0 e1
      by_cases hlt : k < n.kids.length
      · obtain ⟨y, hy⟩ : ∃ y, n.kids[k]? = some y := ⟨_, List.getElem?_eq_getElem hlt⟩
        obtain ⟨kb, ko, rfl, ck⟩ := CI.out.at' hy
        have hyb := HKB.out y (List.mem_of_getElem? hy)
        have hfx := HSP.out k y hy
        rw [← HX.out] at hfx
        obtain ⟨m, rfl⟩ : ∃ m : Nat, y = m := ⟨y.toNat, by omega⟩
        have HC := Lib.hid (HFI.out wr HW2.out ra rs.length rc m (by omega))
        rw [hfx.2] at HC
        have q1 : (x != x) = false := by simp
        have k2 : (k : Int) < (n.kids.length : Int) := by omega
        have k3 : (m : Int) + 1 ≤ 1000 := by omega
        have k4 : (0 : Int) ≤ (m : Int) := by omega
        have HY := Lib.hid hy
        clear hy hfx hyb
        go_wp2_with (go_at_call 9; (with_reducible refine HC.out.mono ?_); rintro e w4 ⟨rfl, hb⟩; replace HW2 := Lib.hid (HW2.out.trans (hb.mono HW2.out.size)); have e0 := (bcell hb).1 _ 0 (lt_of_cell b0); have e1 := (bcell hb).1 _ 1 (lt_of_cell b1); rw [b0] at e0; rw [b1] at e1; clear hb b0 b1)
        go_roundw
        case rel => exact ⟨k + 1, (m : Int) + 1, by omega, rfl, by go_num, by rw [if_neg (by omega), Nat.add_sub_cancel]; simp [List.getD, HY.out], HW2.out, e0, e1⟩
        case measure => simp [intOf]; omega
      · obtain rfl : k = n.kids.length := by omega
        have hxi : x = (i : Int) := by rw [HX.out]; exact HEND.out
        have k2 : ¬ (n.kids.length : Int) < (n.kids.length : Int) := by omega
        subst hxi
        clear HX
        go_wp2
        obtain ⟨n0, hn0⟩ : ∃ n0, w.heap.size = n0 := ⟨_, rfl⟩
        have hnw : n0 ≤ w.heap.size := Nat.le_of_eq hn0.symm
        have HN0 := Lib.hid hn0
        have hC1 : ∀ W, Below n0 w W → Calls Try.prog 9 #[.agg #[.slice ra rs.length rc, .slice (some ⟨nb, no, none⟩) ns.length nc], .int .i64 (i : Int)] W fun e w' => e = .returned (.int .i64 f) ∧ Below W.heap.size W w' := fun W hW => by
          have := HFI.out W (by rw [hn0]; exact hW) ra rs.length rc i hil
          rw [HF.out] at this; exact this
        have hC2 : ∀ W, Below n0 w W → Calls Try.prog 12 #[.agg #[.slice ra rs.length rc, .slice (some ⟨nb, no, none⟩) ns.length nc], .int .i64 f] W fun e w' => e = .returned (.int .i64 (ownL rs i : Int)) ∧ Below W.heap.size W w' := fun W hW => by
          have := HOW.out W (by rw [hn0]; exact hW) (some ⟨nb, no, none⟩) ns.length nc f
          rw [HOQ.out] at this; exact this
        have hC3 : ∀ W, Below n0 w W → Calls Try.prog 12 #[.agg #[.slice ra rs.length rc, .slice (some ⟨nb, no, none⟩) ns.length nc], .int .i64 (i : Int)] W fun e w' => e = .returned (.int .i64 (ownL rs i : Int)) ∧ Below W.heap.size W w' := fun W hW => HOW.out W (by rw [hn0]; exact hW) (some ⟨nb, no, none⟩) ns.length nc i
        have HC1 := Lib.hid hC1
        have HC2 := Lib.hid hC2
        have HC3 := Lib.hid hC3
        have hS : (fun W : World => W.cell? ⟨w.heap.size, 0, none⟩ = some (.slice ra rs.length rc) ∧ W.cell? ⟨w.heap.size, 1, none⟩ = some (.slice (some ⟨nb, no, none⟩) ns.length nc) ∧ Below n0 w W) wr.drew := ⟨b0, b1, by rw [← hn0]; exact HW2.out.drew⟩
        have q1 : ((i : Int) == (i : Int)) = true := by simp
        clear hn0 hC1 hC2 hC3 b0 b1 HW2 c1
        dsimp only at hS
        generalize ownL rs i = o at *
        go_region_held3 (fun W => W.cell? ⟨w.heap.size, 0, none⟩ = some (.slice ra rs.length rc) ∧ W.cell? ⟨w.heap.size, 1, none⟩ = some (.slice (some ⟨nb, no, none⟩) ns.length nc) ∧ Below n0 w W) (first | exact hS)
          (first
            | (go_at_call 9; with_reducible refine (HC1.out _ hS.2.2).mono ?_; rintro ev w5 ⟨rfl, hb⟩; replace hS := boxK hnw hb hS; clear hb)
            | (go_at_call 12; with_reducible refine (HC2.out _ hS.2.2).mono ?_; rintro ev w5 ⟨rfl, hb⟩; replace hS := boxK hnw hb hS; clear hb)
            | (go_at_call 12; with_reducible refine (HC3.out _ hS.2.2).mono ?_; rintro ev w5 ⟨rfl, hb⟩; replace hS := boxK hnw hb hS; clear hb))
        have HBF := Lib.hid hS.2.2
        clear hS
        go_wp2
        go_ret
        exact ⟨rfl, by rw [HN0.out]; exact HBF.out⟩
end Go.Proofs.Ytbhejkjgebhpoaa
