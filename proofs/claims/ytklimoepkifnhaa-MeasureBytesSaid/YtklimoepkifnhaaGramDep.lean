/- The reference's Depth. -/
import Derived.Test.YtklimoepkifnhaaGramExpr
import Derived.Deep.RegionHeld3
import Derived.IntWalk
namespace Go.Proofs.Ytklimoepkifnhaa
open Go.RowKit
theorem foldl_take {l : List Int} {k : Nat} {x : Int} {f : Nat → Int → Nat} (h : l[k]? = some x) : (l.take (k + 1)).foldl f 0 = f ((l.take k).foldl f 0) x := by
  rw [take_snoc' l k x h, List.foldl_append]; rfl
theorem num_max (a b : Nat) : Value.int .i64 (if a < b then (b : Int) else (a : Int)) = .int .i64 ((max a b : Nat) : Int) := by
  congr 1; split <;> omega
/-- What stays through the region of Depth. -/
theorem depK {n b0 nb kb k1 k2 : Nat} {v0 v1 v2 v3 : Value} {w W W' : World} (hn : n ≤ w.heap.size) (hb : Below W.heap.size W W') (h : W.cell? ⟨b0, 0, none⟩ = some v0 ∧ W.cell? ⟨b0, 1, none⟩ = some v1 ∧ W.cell? ⟨nb, k1, none⟩ = some v2 ∧ W.cell? ⟨kb, k2, none⟩ = some v3 ∧ b0 < W.heap.size ∧ Below n w W) : W'.cell? ⟨b0, 0, none⟩ = some v0 ∧ W'.cell? ⟨b0, 1, none⟩ = some v1 ∧ W'.cell? ⟨nb, k1, none⟩ = some v2 ∧ W'.cell? ⟨kb, k2, none⟩ = some v3 ∧ b0 < W'.heap.size ∧ Below n w W' := by
  obtain ⟨h0, h1, h2, h3, h4, h5⟩ := h
  have hc := (bcell hb).1
  exact ⟨by rw [hc _ _ h4]; exact h0, by rw [hc _ _ h4]; exact h1, by rw [hc _ _ (lt_of_cell h2)]; exact h2, by rw [hc _ _ (lt_of_cell h3)]; exact h3, Nat.lt_of_lt_of_le h4 hb.size, h5.trans (hb.mono (Nat.le_trans hn h5.size))⟩
set_option maxHeartbeats 4000000 in
set_option maxRecDepth 100000 in
theorem depth_nat (ra na : Option Addr) (rn rc nn nc : Nat) (ns : List PN) (hs : ns.length ≤ 1000000) (hK : KidsBelow ns) : ∀ (m i : Nat) (z : Int) (w : World), z = (m : Int) → m ≤ 1000 → i < ns.length → NodesAt w (.slice na nn nc) ns →
    Calls Try.prog 27 #[.agg #[.slice ra rn rc, .slice na nn nc], .int .i64 (i : Int), .int .i64 z] w fun e w' => e = .returned (.int .i64 (rdF ns m i : Int)) ∧ Below w.heap.size w w'
  | 0, i, z, w, hz, hm, hi, hN => by
    obtain rfl : z = 0 := by omega
    obtain ⟨n, hn⟩ : ∃ n, ns[i]? = some n := ⟨_, List.getElem?_eq_getElem hi⟩
    obtain ⟨-, a, ca, he, hA⟩ := hN
    injection he with e1 e2 e3
    subst e1 e2 e3
    rcases hA with h0 | ⟨nb, no, rfl, hca⟩
    · rw [h0] at hi; exact absurd hi (Nat.not_lt_zero _)
    obtain ⟨kv, c0, c1, c2, c3, c4, c5, c6, ci, cl⟩ := hca i n hn
    obtain ⟨ka, kc, rfl, -⟩ := ci
    have lb := lt_of_cell c0
    have k1 : (i : Int) < (ns.length : Int) := by omega
    unfold maxLen at cl
    clear hca hn c0 c2 c3 c4 c5 c6 hz
    go_enter Try.func27, Try.ntmps27
    go_wp2
    go_loop [7, 8] (fun d c => d = .int .i64 0 ∧ c = .int .i64 0) (fun _ _ => 0)
    case atStart => exact ⟨rfl, rfl⟩
    case round =>
      obtain ⟨rfl, rfl⟩ := hrel
      by_cases h0 : 0 < n.kids.length
      · have k2 : (0 : Int) < (n.kids.length : Int) := by omega
        go_wp2
        go_ret
        exact ⟨rfl, one_new _ _⟩
      · have k2 : ¬ (0 : Int) < (n.kids.length : Int) := by omega
        go_wp2
        go_ret
        exact ⟨rfl, one_new _ _⟩
  | m + 1, i, z, w, hz, hm, hi, hN => by
    have IH := fun (a : Int) (W : World) (ha0 : 0 ≤ a) (ha : a < i) (hb : Below w.heap.size w W) => (show Calls Try.prog 27 #[.agg #[.slice ra rn rc, .slice na nn nc], .int .i64 a, .int .i64 (m : Int)] W fun e w' => e = .returned (.int .i64 (rdF ns m a : Int)) ∧ Below W.heap.size W w' by
      obtain ⟨k, rfl⟩ : ∃ k : Nat, a = k := ⟨a.toNat, by omega⟩
      exact depth_nat ra na rn rc nn nc ns hs hK m k m W rfl (by omega) (by omega) (hN.kept hb (Nat.le_refl _)))
    have HI := Lib.hid IH
    clear IH
    have ez : z - 1 = (m : Int) := by omega
    have ew : IntKind.i64.wrap (m : Int) = (m : Int) := IntWalk.i64_in _ (by omega)
    have z0 : (0 : Int) < z := by omega
    have z1 : z ≤ 1000 := by omega
    clear hz
    obtain ⟨n, hn⟩ : ∃ n, ns[i]? = some n := ⟨_, List.getElem?_eq_getElem hi⟩
    have HK := Lib.hid (hK i n hn)
    have HR : Hid (rdF ns (m + 1) i = n.kids.foldl (fun d k => max d (rdF ns m k)) 0 + 1) := Lib.hid (by
      show (kidsAt ns (i : Int).toNat).foldl (fun d k => max d (rdF ns m k)) 0 + 1 = _
      rw [show (i : Int).toNat = i by omega, kidsAt_some hn])
    have hle : rdF ns (m + 1) i ≤ m + 2 := by rw [rdF_is hK (m + 1) i (by omega) (by omega)]; omega
    obtain ⟨-, a, ca, he, hA⟩ := hN
    injection he with e1 e2 e3
    subst e1 e2 e3
    rcases hA with h0 | ⟨nb, no, rfl, hca⟩
    · rw [h0] at hi; exact absurd hi (Nat.not_lt_zero _)
    obtain ⟨kv, c0, c1, c2, c3, c4, c5, c6, ci, cl⟩ := hca i n hn
    have CI := Lib.hid ci
    obtain ⟨ka, kc, rfl, -⟩ := ci
    have lb := lt_of_cell c0
    have k1 : (i : Int) < (ns.length : Int) := by omega
    have HC1 := Lib.hid c1
    unfold maxLen at cl
    clear hca hn c0 c2 c3 c4 c5 c6
    go_enter Try.func27, Try.ntmps27
    go_wp2
    clear c1
    go_loopw [7, 8] (fun vd vk wr => ∃ (k d : Nat), k ≤ n.kids.length ∧ vd = .int .i64 d ∧ vk = .int .i64 k ∧ d = (n.kids.take k).foldl (fun d k => max d (rdF ns m k)) 0 ∧ Below w.heap.size w wr ∧ w.heap.size < wr.heap.size ∧ wr.cell? ⟨w.heap.size, 0, none⟩ = some (.slice ra rn rc) ∧ wr.cell? ⟨w.heap.size, 1, none⟩ = some (.slice (some ⟨nb, no, none⟩) ns.length nc)) (fun _ vk _ => n.kids.length - (intOf vk).toNat)
    case atStart => exact ⟨0, 0, Nat.zero_le _, rfl, rfl, rfl, one_new _ _, by simp, by simp, by simp⟩
    case round =>
      obtain ⟨k, d, hk, rfl, rfl, hd, hbw, hsw, b0, b1⟩ := hrel
      have HD := Lib.hid hd
      have c1 := HC1.out
      rw [← (bcell hbw).1 _ _ lb] at c1
      have CI2 := Lib.hid (CI.out.kept hbw (Nat.le_refl _))
      clear hd
      by_cases hlt : k < n.kids.length
      · obtain ⟨x, hx⟩ : ∃ x, n.kids[k]? = some x := ⟨_, List.getElem?_eq_getElem hlt⟩
        obtain ⟨kb, ko, rfl, ck⟩ := CI2.out.at' hx
        have hkx := HK.out x (List.mem_of_getElem? hx)
        have HF := Lib.hid (foldl_take (f := fun d k => max d (rdF ns m k)) hx)
        have HC := Lib.hid (fun W hW => HI.out x W hkx.1 hkx.2 hW)
        rw [← HD.out] at HF
        generalize rdF ns m x = y at HF HC
        have k2 : (k : Int) < (n.kids.length : Int) := by omega
        have HW := Lib.hid hbw
        clear hx hkx
        go_wp2
        obtain ⟨n0, hn0⟩ : ∃ n0, w.heap.size = n0 := ⟨_, rfl⟩
        have hnw : n0 ≤ w.heap.size := Nat.le_of_eq hn0.symm
        have HN0 := Lib.hid hn0
        have hS : (fun W : World => W.cell? ⟨w.heap.size, 0, none⟩ = some (.slice ra rn rc) ∧ W.cell? ⟨w.heap.size, 1, none⟩ = some (.slice (some ⟨nb, no, none⟩) ns.length nc) ∧ W.cell? ⟨nb, no + i * 7 + 1, none⟩ = some (.slice (some ⟨kb, ko, none⟩) n.kids.length kc) ∧ W.cell? ⟨kb, ko + k, none⟩ = some (.int .i64 x) ∧ w.heap.size < W.heap.size ∧ Below n0 w W) wr.drew := ⟨b0, b1, c1, ck, hsw, by rw [← hn0]; exact HW.out.drew⟩
        clear hn0 b0 b1 c1 ck hsw HW hbw
        dsimp only at hS
        go_region_held3 (fun W => W.cell? ⟨w.heap.size, 0, none⟩ = some (.slice ra rn rc) ∧ W.cell? ⟨w.heap.size, 1, none⟩ = some (.slice (some ⟨nb, no, none⟩) ns.length nc) ∧ W.cell? ⟨nb, no + i * 7 + 1, none⟩ = some (.slice (some ⟨kb, ko, none⟩) n.kids.length kc) ∧ W.cell? ⟨kb, ko + k, none⟩ = some (.int .i64 x) ∧ w.heap.size < W.heap.size ∧ Below n0 w W) (first | exact hS)
          (first | (go_at_call 27; with_reducible refine (HC.out _ (by rw [HN0.out]; exact hS.2.2.2.2.2)).mono ?_; rintro ev w3 ⟨rfl, hb⟩; replace hS := depK hnw hb hS; clear hb))
        obtain ⟨b0, b1, -, -, hsw, hb3⟩ := hS
        have HB3 := Lib.hid hb3
        clear hb3
        go_wp2
        go_roundw
        case rel => exact ⟨k + 1, max d y, by omega, num_max d y, by go_num, HF.out.symm, by rw [HN0.out]; exact HB3.out, hsw, b0, b1⟩
        case measure => simp [intOf]; omega
      · obtain rfl : k = n.kids.length := by omega
        have HQ : Hid (rdF ns (m + 1) i = d + 1) := Lib.hid (by rw [HR.out, HD.out, List.take_length])
        have hd1 : (d : Int) + 1 ≤ 2000 := by have := HQ.out; omega
        have hd0 : (0 : Int) ≤ (d : Int) := by omega
        have k2 : ¬ (n.kids.length : Int) < (n.kids.length : Int) := by omega
        have HW := Lib.hid hbw
        clear hbw hle
        go_wp2
        go_ret
        exact ⟨ret_int (by rw [HQ.out]; omega), HW.out⟩
end Go.Proofs.Ytklimoepkifnhaa
