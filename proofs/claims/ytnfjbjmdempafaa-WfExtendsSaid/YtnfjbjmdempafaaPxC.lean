/- The reference's Expression and Ordered. The reference's Depth. gram.Depths on a grammar whose kids come before their nodes. -/
import Derived.Deep.RegionHeld3
import Derived.IntWalk
import Derived.RegionTactic
import Derived.Deep.OwnRows
import Derived.ChangeAlike
import Derived.Test.YtnfjbjmdempafaaPxB
import Derived.Test.YtnfjbjmdempafaaPxGramFew
namespace Go.Proofs.Ytnfjbjmdempafaa
open Go.RowKit
theorem IntsAt.at' {w : World} {a : Option Addr} {n cap : Nat} {l : List Int} {i : Nat} {x : Int} (h : IntsAt w (.slice a n cap) l) (hx : l[i]? = some x) : ∃ b off, a = some ⟨b, off, none⟩ ∧ w.cell? ⟨b, off + i, none⟩ = some (.int .i64 x) := by
  obtain ⟨a', cap', e, h⟩ := h
  injection e with e1 e2 e3
  subst e1
  rcases h with h | ⟨b, off, rfl, hc⟩
  · rw [h] at hx; simp at hx
  · exact ⟨b, off, rfl, hc i x hx⟩
theorem take_rev {l : List Int} {k : Nat} {x : Int} (h : l[k]? = some x) : (l.take (k + 1)).reverse = x :: (l.take k).reverse := by
  rw [take_snoc' l k x h, List.reverse_append]; rfl
theorem expr_neg (ra na : Option Addr) (rn rc nn nc : Nat) (x : Int) (hx : x < 0) (w : World) :
    Calls Try.prog 71 #[.agg #[.slice ra rn rc, .slice na nn nc], .int .i64 x] w fun e w' => e = .returned (.int .i64 (-2)) ∧ Below w.heap.size w w' := by
  go_enter Try.func71, Try.ntmps71
  go_wp2
  go_ret
  exact ⟨rfl, one_new _ _⟩
set_option maxHeartbeats 4000000 in
set_option maxRecDepth 100000 in
theorem expr_nat (ra na : Option Addr) (rn rc nn nc : Nat) (ns : List PN) (hs : ns.length ≤ 1000000) : ∀ (f i : Nat) (w : World), i < f → i < ns.length → NodesAt w (.slice na nn nc) ns →
    Calls Try.prog 71 #[.agg #[.slice ra rn rc, .slice na nn nc], .int .i64 (i : Int)] w fun e w' => e = .returned (.int .i64 (exL ns i)) ∧ Below w.heap.size w w'
  | 0, i, w, h, _, _ => absurd h (Nat.not_lt_zero _)
  | f + 1, i, w, h, hi, hN => by
    have IH := fun (a : Int) (W : World) (ha : a < i) (hb : Below w.heap.size w W) => (show Calls Try.prog 71 #[.agg #[.slice ra rn rc, .slice na nn nc], .int .i64 a] W fun e w' => e = .returned (.int .i64 (exL ns a)) ∧ Below W.heap.size W w' by
      by_cases h0 : a < 0
      · rw [exL_neg ns a h0]; exact expr_neg _ _ _ _ _ _ a h0 W
      · obtain ⟨m, rfl⟩ : ∃ m : Nat, a = m := ⟨a.toNat, by omega⟩
        exact expr_nat ra na rn rc nn nc ns hs f m W (by omega) (by omega) (hN.kept hb (Nat.le_refl _)))
    have HI := Lib.hid IH
    clear IH
    obtain ⟨n, hn⟩ : ∃ n, ns[i]? = some n := ⟨_, List.getElem?_eq_getElem hi⟩
    have hE := exL_eq ns (i : Int) (by omega)
    rw [show (i : Int).toNat = i by omega, kidsAt_some hn] at hE
    have HE := Lib.hid hE
    have HB0 := Lib.hid (Below.refl w.heap.size w)
    clear hE
    obtain ⟨-, a, ca, he, hA⟩ := hN
    injection he with e1 e2 e3
    subst e1 e2 e3
    rcases hA with h0 | ⟨nb, no, rfl, hca⟩
    · rw [h0] at hi; exact absurd hi (Nat.not_lt_zero _)
    obtain ⟨kv, c0, c1, c2, c3, c4, c5, c6, ci, cl⟩ := hca i n hn
    have CI := Lib.hid ci
    obtain ⟨ka, kc, rfl, -⟩ := ci
    have lb := lt_of_cell c0
    have k1 : (i : Int) < (ns.length : Int) := by omega
    have HC1 := Lib.hid c1
    unfold maxLen at cl
    clear hca hn c0 c2 c3 c4 c5 c6
    go_enter Try.func71, Try.ntmps71
    go_wp2
    clear c1
    go_loopw [5, 6] (fun va vk wr => ∃ (t : Nat) (a z : Int), t ≤ n.kids.length ∧ va = .int .i64 a ∧ vk = .int .i64 z ∧ z = (t : Int) - 1 ∧ -1 ≤ a ∧ a < i ∧ chainL (exL ns) (n.kids.take t).reverse a = exL ns i ∧ Below w.heap.size w wr ∧ w.heap.size < wr.heap.size ∧ wr.cell? ⟨w.heap.size, 1, none⟩ = some (.slice (some ⟨nb, no, none⟩) ns.length nc) ∧ wr.cell? ⟨w.heap.size, 0, none⟩ = some (.slice ra rn rc)) (fun _ vk _ => (intOf vk + 1).toNat)
    case atStart => exact ⟨n.kids.length, _, _, Nat.le_refl _, rfl, rfl, rfl, by omega, by omega, by rw [List.take_length]; exact HE.out.symm, one_new _ _, by simp, by simp, by simp⟩
    case round =>
      obtain ⟨t, a, z, ht, rfl, rfl, hz, ha1, ha2, hch, hbw, hsw, b1, b0⟩ := hrel
      have HCH := Lib.hid hch
      have c1 := HC1.out
      rw [← (bcell hbw).1 _ _ lb] at c1
      have CI2 := Lib.hid (CI.out.kept hbw (Nat.le_refl _))
      have HW := Lib.hid hbw
      have hsz := hbw.size
      clear hch hbw
      by_cases ht0 : t = 0
      · subst ht0
        obtain rfl : z = -1 := by omega
        have HR : Hid (a = exL ns i) := Lib.hid (by have := HCH.out; rw [List.take_zero] at this; exact this)
        clear hz ht
        go_wp2
        go_ret
        exact ⟨ret_int HR.out, HW.out⟩
      · obtain ⟨k, rfl⟩ : ∃ k, t = k + 1 := ⟨t - 1, by omega⟩
        obtain rfl : z = (k : Int) := by omega
        clear hz ht0
        obtain ⟨x, hx⟩ : ∃ x, n.kids[k]? = some x := ⟨_, List.getElem?_eq_getElem (by omega)⟩
        obtain ⟨kb, ko, rfl, ck⟩ := CI2.out.at' hx
        have hrv := take_rev hx
        have k2 : (k : Int) < (n.kids.length : Int) := by omega
        rw [hrv] at HCH
        clear hx hrv
        by_cases hxa : x = a
        · subst hxa
          have q1 : (x != x) = false := by simp
          by_cases he : exL ns x = -2
          · have hq : exL ns (i : Int) = -2 := by rw [← HCH.out, chainL_stop he]
            have HQ := Lib.hid hq
            have HC := Lib.hid (HI.out x wr ha2 HW.out)
            rw [he] at HC
            clear he hq
            go_wp2_with (go_at_call 71; (with_reducible refine HC.out.mono ?_); rintro e w1 ⟨rfl, hb⟩; have HW1 := Lib.hid (HW.out.trans (hb.mono hsz)); clear hb)
            go_ret
            exact ⟨ret_int HQ.out.symm, HW1.out⟩
          · have hl := exL_lt ns x he
            have hs := chainL_step (ex := exL ns) (a := x) (ks := (n.kids.take k).reverse) he
            rw [hs] at HCH
            have HC := Lib.hid (HI.out x wr ha2 HW.out)
            generalize exL ns x = y at *
            have q2 : (y == -2) = false := ibeq_no he
            clear he hs
            go_wp2_with (go_at_call 71; (with_reducible refine HC.out.mono ?_); rintro e w1 ⟨rfl, hb⟩; have HW1 := Lib.hid (HW.out.trans (hb.mono hsz)); have b1' := (bcell hb).1 _ 1 hsw; have b0' := (bcell hb).1 _ 0 hsw; rw [b1] at b1'; rw [b0] at b0'; have hsw1 := Nat.lt_of_lt_of_le hsw hb.size; clear hb)
            go_roundw
            case rel => exact ⟨k, y, (k : Int) - 1, by omega, rfl, rfl, rfl, by omega, by omega, HCH.out, HW1.out, hsw1, b1', b0'⟩
            case measure => simp [intOf]
        · have q1 : (x != a) = true := ibne_yes hxa
          have HQ : Hid (exL ns (i : Int) = -2) := Lib.hid (by rw [← HCH.out, chainL_bad hxa])
          go_wp2
          go_ret
          exact ⟨ret_int HQ.out.symm, HW.out⟩
theorem expr_any (ra na : Option Addr) (rn rc nn nc : Nat) (ns : List PN) (hs : ns.length ≤ 1000000) (a : Int) (ha : a < ns.length) (w : World) (hN : NodesAt w (.slice na nn nc) ns) :
    Calls Try.prog 71 #[.agg #[.slice ra rn rc, .slice na nn nc], .int .i64 a] w fun e w' => e = .returned (.int .i64 (exL ns a)) ∧ Below w.heap.size w w' := by
  by_cases h0 : a < 0
  · rw [exL_neg ns a h0]; exact expr_neg _ _ _ _ _ _ a h0 w
  · obtain ⟨m, rfl⟩ : ∃ m : Nat, a = m := ⟨a.toNat, by omega⟩
    exact expr_nat ra na rn rc nn nc ns hs (m + 1) m w (Nat.lt_succ_self _) (by omega) hN
set_option maxHeartbeats 4000000 in
set_option maxRecDepth 100000 in
theorem ordered_any (rv : Value) (na : Option Addr) (nn nc : Nat) (rs : List PR) (ns : List PN) (w : World) (hs : ns.length ≤ 1000000) (hR : RulesIn w rv rs) (hN : NodesAt w (.slice na nn nc) ns) :
    Calls Try.prog 55 #[.agg #[rv, .slice na nn nc]] w fun e w' => e = .returned (.bool (ordR ns rs (-1))) ∧ Below w.heap.size w w' := by
  have hN' := hN
  obtain ⟨-, na', nc', hne, -⟩ := hN'
  injection hne with n1 n2 n3
  subst n1 n2 n3
  obtain ⟨hlr, ra, rc, rfl, hra⟩ := hR
  unfold maxLen at hlr
  have HX := Lib.hid (fun (a : Int) (W : World) (ha : a < ns.length) (hb : Below w.heap.size w W) => expr_any ra na rs.length rc ns.length nc ns hs a ha W (hN.kept hb (Nat.le_refl _)))
  clear hN
  go_enter Try.func55, Try.ntmps55
  go_wp2
  go_loopw [3, 4] (fun vb vc wr => ∃ (k : Nat) (b : Int), k ≤ rs.length ∧ vb = .int .i64 b ∧ vc = .int .i64 k ∧ -1 ≤ b ∧ b < (ns.length : Int) + 1 ∧ ordR ns (rs.drop k) b = ordR ns rs (-1) ∧ Below w.heap.size w wr ∧ w.heap.size < wr.heap.size ∧ wr.cell? ⟨w.heap.size, 1, none⟩ = some (.slice na ns.length nc) ∧ wr.cell? ⟨w.heap.size, 0, none⟩ = some (.slice ra rs.length rc)) (fun _ vc _ => rs.length - (intOf vc).toNat)
  case atStart => exact ⟨0, -1, Nat.zero_le _, rfl, rfl, by omega, by omega, rfl, one_new _ _, by simp, by simp, by simp⟩
  case round =>
    obtain ⟨k, b, hk, rfl, rfl, hb1, hb2, ho, hbw, hsw, b1, b0⟩ := hrel
    have HO := Lib.hid ho
    clear ho
    by_cases hlt : k < rs.length
    · obtain ⟨r, hr⟩ : ∃ r, rs[k]? = some r := ⟨_, List.getElem?_eq_getElem hlt⟩
      rcases hra with h0 | ⟨rb, ro, rfl, hca⟩
      · rw [h0] at hlt; exact absurd hlt (Nat.not_lt_zero _)
      obtain ⟨c0, c1⟩ := (hca k r hr).kept hbw (Nat.le_refl _)
      have lb := lt_of_cell c0
      have hcd : rs.drop k = r :: rs.drop (k + 1) := by
        obtain ⟨h1, h2⟩ := List.getElem?_eq_some_iff.1 hr
        rw [List.drop_eq_getElem_cons h1, h2]
      rw [hcd] at HO
      have k1 : (k : Int) < (rs.length : Int) := by omega
      have HW := Lib.hid hbw
      have hsz := hbw.size
      clear hca hr hbw hcd c0
      by_cases h1 : r.root ≤ b
      · have HF : Hid (ordR ns rs (-1) = false) := Lib.hid (by
          rw [← HO.out]
          show (if r.root ≤ b ∨ (ns.length : Int) ≤ r.root ∨ exL ns r.root ≠ b then false else _) = false
          rw [if_pos (Or.inl h1)])
        go_wp2
        go_ret
        exact ⟨ret_bool HF.out.symm, HW.out⟩
      · by_cases h2 : (ns.length : Int) ≤ r.root
        · have HF : Hid (ordR ns rs (-1) = false) := Lib.hid (by
            rw [← HO.out]
            show (if r.root ≤ b ∨ (ns.length : Int) ≤ r.root ∨ exL ns r.root ≠ b then false else _) = false
            rw [if_pos (Or.inr (Or.inl h2))])
          go_wp2
          go_ret
          exact ⟨ret_bool HF.out.symm, HW.out⟩
        · have HC := Lib.hid (HX.out r.root wr (by omega) HW.out)
          by_cases h3 : exL ns r.root = b
          · have HT := Lib.hid (ordR_mk (t := rs.drop (k + 1)) (by omega) (by omega) h3)
            rw [h3] at HC
            have q1 : (b != b) = false := by simp
            clear h3
            go_wp2_with (go_at_call 71; (with_reducible refine HC.out.mono ?_); rintro e w1 ⟨rfl, hb⟩; have HW1 := Lib.hid (HW.out.trans (hb.mono hsz)); have b1' := (bcell hb).1 _ 1 hsw; have b0' := (bcell hb).1 _ 0 hsw; rw [b1] at b1'; rw [b0] at b0'; have d1 := (bcell hb).1 _ (ro + k * 2 + 1) lb; rw [c1] at d1; have hsw1 := Nat.lt_of_lt_of_le hsw hb.size; clear hb)
            go_roundw
            case rel => exact ⟨k + 1, r.root, by omega, rfl, by go_num, by omega, by omega, by rw [← HT.out]; exact HO.out, HW1.out, hsw1, b1', b0'⟩
            case measure => simp [intOf]; omega
          · have HF : Hid (ordR ns rs (-1) = false) := Lib.hid (by
              rw [← HO.out]
              show (if r.root ≤ b ∨ (ns.length : Int) ≤ r.root ∨ exL ns r.root ≠ b then false else _) = false
              rw [if_pos (Or.inr (Or.inr h3))])
            generalize exL ns r.root = y at HC h3
            have q1 : (y != b) = true := ibne_yes h3
            clear h3
            go_wp2_with (go_at_call 71; (with_reducible refine HC.out.mono ?_); rintro e w1 ⟨rfl, hb⟩; have HW1 := Lib.hid (HW.out.trans (hb.mono hsz)); clear hb)
            go_ret
            exact ⟨ret_bool HF.out.symm, HW1.out⟩
    · obtain rfl : k = rs.length := by omega
      have k1 : ¬ (rs.length : Int) < (rs.length : Int) := by omega
      have HF : Hid (ordR ns rs (-1) = (b == (ns.length : Int) - 1)) := Lib.hid (by rw [← HO.out, List.drop_length]; rfl)
      have HW := Lib.hid hbw
      clear hbw hra
      go_wp2
      go_ret
      exact ⟨ret_bool HF.out.symm, HW.out⟩
end Go.Proofs.Ytnfjbjmdempafaa
namespace Go.Proofs.Ytnfjbjmdempafaa
open Go.RowKit
theorem foldl_take {l : List Int} {k : Nat} {x : Int} {f : Nat → Int → Nat} (h : l[k]? = some x) : (l.take (k + 1)).foldl f 0 = f ((l.take k).foldl f 0) x := by
  rw [take_snoc' l k x h, List.foldl_append]; rfl
theorem num_max (a b : Nat) : Value.int .i64 (if a < b then (b : Int) else (a : Int)) = .int .i64 ((max a b : Nat) : Int) := by
  congr 1; split <;> omega
/-- What stays through the region of Depth. -/
theorem depK {n b0 nb kb k1 k2 : Nat} {v0 v1 v2 v3 : Value} {w W W' : World} (hn : n ≤ w.heap.size) (hb : Below W.heap.size W W') (h : W.cell? ⟨b0, 0, none⟩ = some v0 ∧ W.cell? ⟨b0, 1, none⟩ = some v1 ∧ W.cell? ⟨nb, k1, none⟩ = some v2 ∧ W.cell? ⟨kb, k2, none⟩ = some v3 ∧ b0 < W.heap.size ∧ Below n w W) : W'.cell? ⟨b0, 0, none⟩ = some v0 ∧ W'.cell? ⟨b0, 1, none⟩ = some v1 ∧ W'.cell? ⟨nb, k1, none⟩ = some v2 ∧ W'.cell? ⟨kb, k2, none⟩ = some v3 ∧ b0 < W'.heap.size ∧ Below n w W' := by
  obtain ⟨h0, h1, h2, h3, h4, h5⟩ := h
  have hc := (bcell hb).1
  exact ⟨by rw [hc _ _ h4]; exact h0, by rw [hc _ _ h4]; exact h1, by rw [hc _ _ (lt_of_cell h2)]; exact h2, by rw [hc _ _ (lt_of_cell h3)]; exact h3, Nat.lt_of_lt_of_le h4 hb.size, h5.trans (hb.mono (Nat.le_trans hn h5.size))⟩
set_option maxHeartbeats 4000000 in
set_option maxRecDepth 100000 in
theorem depth_nat (ra na : Option Addr) (rn rc nn nc : Nat) (ns : List PN) (hs : ns.length ≤ 1000000) (hK : KidsBelow ns) : ∀ (m i : Nat) (z : Int) (w : World), z = (m : Int) → m ≤ 1000 → i < ns.length → NodesAt w (.slice na nn nc) ns →
    Calls Try.prog 56 #[.agg #[.slice ra rn rc, .slice na nn nc], .int .i64 (i : Int), .int .i64 z] w fun e w' => e = .returned (.int .i64 (rdF ns m i : Int)) ∧ Below w.heap.size w w'
  | 0, i, z, w, hz, hm, hi, hN => by
    obtain rfl : z = 0 := by omega
    obtain ⟨n, hn⟩ : ∃ n, ns[i]? = some n := ⟨_, List.getElem?_eq_getElem hi⟩
    obtain ⟨-, a, ca, he, hA⟩ := hN
    injection he with e1 e2 e3
    subst e1 e2 e3
    rcases hA with h0 | ⟨nb, no, rfl, hca⟩
    · rw [h0] at hi; exact absurd hi (Nat.not_lt_zero _)
    obtain ⟨kv, c0, c1, c2, c3, c4, c5, c6, ci, cl⟩ := hca i n hn
    obtain ⟨ka, kc, rfl, -⟩ := ci
    have lb := lt_of_cell c0
    have k1 : (i : Int) < (ns.length : Int) := by omega
    unfold maxLen at cl
    clear hca hn c0 c2 c3 c4 c5 c6 hz
    go_enter Try.func56, Try.ntmps56
    go_wp2
    go_loop [7, 8] (fun d c => d = .int .i64 0 ∧ c = .int .i64 0) (fun _ _ => 0)
    case atStart => exact ⟨rfl, rfl⟩
    case round =>
      obtain ⟨rfl, rfl⟩ := hrel
      by_cases h0 : 0 < n.kids.length
      · have k2 : (0 : Int) < (n.kids.length : Int) := by omega
        go_wp2
        go_ret
        exact ⟨rfl, one_new _ _⟩
      · have k2 : ¬ (0 : Int) < (n.kids.length : Int) := by omega
        go_wp2
        go_ret
        exact ⟨rfl, one_new _ _⟩
  | m + 1, i, z, w, hz, hm, hi, hN => by
    have IH := fun (a : Int) (W : World) (ha0 : 0 ≤ a) (ha : a < i) (hb : Below w.heap.size w W) => (show Calls Try.prog 56 #[.agg #[.slice ra rn rc, .slice na nn nc], .int .i64 a, .int .i64 (m : Int)] W fun e w' => e = .returned (.int .i64 (rdF ns m a : Int)) ∧ Below W.heap.size W w' by
      obtain ⟨k, rfl⟩ : ∃ k : Nat, a = k := ⟨a.toNat, by omega⟩
      exact depth_nat ra na rn rc nn nc ns hs hK m k m W rfl (by omega) (by omega) (hN.kept hb (Nat.le_refl _)))
    have HI := Lib.hid IH
    clear IH
    have ez : z - 1 = (m : Int) := by omega
    have ew : IntKind.i64.wrap (m : Int) = (m : Int) := IntWalk.i64_in _ (by omega)
    have z0 : (0 : Int) < z := by omega
    have z1 : z ≤ 1000 := by omega
    clear hz
    obtain ⟨n, hn⟩ : ∃ n, ns[i]? = some n := ⟨_, List.getElem?_eq_getElem hi⟩
    have HK := Lib.hid (hK i n hn)
    have HR : Hid (rdF ns (m + 1) i = n.kids.foldl (fun d k => max d (rdF ns m k)) 0 + 1) := Lib.hid (by
      show (kidsAt ns (i : Int).toNat).foldl (fun d k => max d (rdF ns m k)) 0 + 1 = _
      rw [show (i : Int).toNat = i by omega, kidsAt_some hn])
    have hle : rdF ns (m + 1) i ≤ m + 2 := by rw [rdF_is hK (m + 1) i (by omega) (by omega)]; omega
    obtain ⟨-, a, ca, he, hA⟩ := hN
    injection he with e1 e2 e3
    subst e1 e2 e3
    rcases hA with h0 | ⟨nb, no, rfl, hca⟩
    · rw [h0] at hi; exact absurd hi (Nat.not_lt_zero _)
    obtain ⟨kv, c0, c1, c2, c3, c4, c5, c6, ci, cl⟩ := hca i n hn
    have CI := Lib.hid ci
    obtain ⟨ka, kc, rfl, -⟩ := ci
    have lb := lt_of_cell c0
    have k1 : (i : Int) < (ns.length : Int) := by omega
    have HC1 := Lib.hid c1
    unfold maxLen at cl
    clear hca hn c0 c2 c3 c4 c5 c6
    go_enter Try.func56, Try.ntmps56
    go_wp2
    clear c1
    go_loopw [7, 8] (fun vd vk wr => ∃ (k d : Nat), k ≤ n.kids.length ∧ vd = .int .i64 d ∧ vk = .int .i64 k ∧ d = (n.kids.take k).foldl (fun d k => max d (rdF ns m k)) 0 ∧ Below w.heap.size w wr ∧ w.heap.size < wr.heap.size ∧ wr.cell? ⟨w.heap.size, 0, none⟩ = some (.slice ra rn rc) ∧ wr.cell? ⟨w.heap.size, 1, none⟩ = some (.slice (some ⟨nb, no, none⟩) ns.length nc)) (fun _ vk _ => n.kids.length - (intOf vk).toNat)
    case atStart => exact ⟨0, 0, Nat.zero_le _, rfl, rfl, rfl, one_new _ _, by simp, by simp, by simp⟩
    case round =>
      obtain ⟨k, d, hk, rfl, rfl, hd, hbw, hsw, b0, b1⟩ := hrel
      have HD := Lib.hid hd
      have c1 := HC1.out
      rw [← (bcell hbw).1 _ _ lb] at c1
      have CI2 := Lib.hid (CI.out.kept hbw (Nat.le_refl _))
      clear hd
      by_cases hlt : k < n.kids.length
      · obtain ⟨x, hx⟩ : ∃ x, n.kids[k]? = some x := ⟨_, List.getElem?_eq_getElem hlt⟩
        obtain ⟨kb, ko, rfl, ck⟩ := CI2.out.at' hx
        have hkx := HK.out x (List.mem_of_getElem? hx)
        have HF := Lib.hid (foldl_take (f := fun d k => max d (rdF ns m k)) hx)
        have HC := Lib.hid (fun W hW => HI.out x W hkx.1 hkx.2 hW)
        rw [← HD.out] at HF
        generalize rdF ns m x = y at HF HC
        have k2 : (k : Int) < (n.kids.length : Int) := by omega
        have HW := Lib.hid hbw
        clear hx hkx
        go_wp2
        obtain ⟨n0, hn0⟩ : ∃ n0, w.heap.size = n0 := ⟨_, rfl⟩
        have hnw : n0 ≤ w.heap.size := Nat.le_of_eq hn0.symm
        have HN0 := Lib.hid hn0
        have hS : (fun W : World => W.cell? ⟨w.heap.size, 0, none⟩ = some (.slice ra rn rc) ∧ W.cell? ⟨w.heap.size, 1, none⟩ = some (.slice (some ⟨nb, no, none⟩) ns.length nc) ∧ W.cell? ⟨nb, no + i * 7 + 1, none⟩ = some (.slice (some ⟨kb, ko, none⟩) n.kids.length kc) ∧ W.cell? ⟨kb, ko + k, none⟩ = some (.int .i64 x) ∧ w.heap.size < W.heap.size ∧ Below n0 w W) wr.drew := ⟨b0, b1, c1, ck, hsw, by rw [← hn0]; exact HW.out.drew⟩
        clear hn0 b0 b1 c1 ck hsw HW hbw
        dsimp only at hS
        go_region_held3 (fun W => W.cell? ⟨w.heap.size, 0, none⟩ = some (.slice ra rn rc) ∧ W.cell? ⟨w.heap.size, 1, none⟩ = some (.slice (some ⟨nb, no, none⟩) ns.length nc) ∧ W.cell? ⟨nb, no + i * 7 + 1, none⟩ = some (.slice (some ⟨kb, ko, none⟩) n.kids.length kc) ∧ W.cell? ⟨kb, ko + k, none⟩ = some (.int .i64 x) ∧ w.heap.size < W.heap.size ∧ Below n0 w W) (first | exact hS)
          (first | (go_at_call 56; with_reducible refine (HC.out _ (by rw [HN0.out]; exact hS.2.2.2.2.2)).mono ?_; rintro ev w3 ⟨rfl, hb⟩; replace hS := depK hnw hb hS; clear hb))
        obtain ⟨b0, b1, -, -, hsw, hb3⟩ := hS
        have HB3 := Lib.hid hb3
        clear hb3
        go_wp2
        go_roundw
        case rel => exact ⟨k + 1, max d y, by omega, by first | exact num_max d y | exact congrArg (Value.int .i64) (by omega), by go_num, HF.out.symm, by rw [HN0.out]; exact HB3.out, hsw, b0, b1⟩
        case measure => simp [intOf]; omega
      · obtain rfl : k = n.kids.length := by omega
        have HQ : Hid (rdF ns (m + 1) i = d + 1) := Lib.hid (by rw [HR.out, HD.out, List.take_length])
        have hd1 : (d : Int) + 1 ≤ 2000 := by have := HQ.out; omega
        have hd0 : (0 : Int) ≤ (d : Int) := by omega
        have k2 : ¬ (n.kids.length : Int) < (n.kids.length : Int) := by omega
        have HW := Lib.hid hbw
        clear hbw hle
        go_wp2
        go_ret
        exact ⟨ret_int (by rw [HQ.out]; omega), HW.out⟩
end Go.Proofs.Ytnfjbjmdempafaa
namespace Go.Proofs.Ytnfjbjmdempafaa
open Go.RowKit
/-- Block B holds the numbers f, of n. -/
def NAt (f : Nat → Nat) (n B : Nat) (w : World) : Prop := ∀ j, j < n → w.cell? ⟨B, j, none⟩ = some (.int .i64 (f j : Int)) ∧ w.frozen? ⟨B, j, none⟩ = false
def updN (f : Nat → Nat) (i x : Nat) : Nat → Nat := fun j => if j = i then x else f j
theorem NAt.put {f : Nat → Nat} {n B i x : Nat} {w : World} (h : NAt f n B w) : NAt (updN f i x) n B (w.setCell ⟨B, i, none⟩ (.int .i64 (x : Int))) := fun j hj => by
  refine ⟨?_, by rw [World.frozen?_setCell]; exact (h j hj).2⟩
  unfold updN
  by_cases e : j = i
  · subst e; rw [World.cell?_setCell_same' _ _ _ (by rw [(h _ hj).1]; rfl)]; simp
  · rw [World.cell?_setCell_other _ _ _ _ (by intro hh; injection hh with _ h2; exact e h2.symm), (h j hj).1]; simp [e]
theorem NAt.put' {f : Nat → Nat} {n B i x : Nat} {y : Int} {w : World} (h : NAt f n B w) (hy : y = x) : NAt (updN f i x) n B (w.setCell ⟨B, i, none⟩ (.int .i64 y)) := by subst hy; exact h.put
theorem NAt.drew {f : Nat → Nat} {n B : Nat} {w : World} (h : NAt f n B w) : NAt f n B w.drew := h
theorem NAt.below {f : Nat → Nat} {n B k : Nat} {w w' : World} (h : NAt f n B w) (hb : Below k w w') (hB : B < k) : NAt f n B w' := fun j hj => by
  have hc := bcell hb
  exact ⟨by rw [hc.1 _ _ hB]; exact (h j hj).1, by rw [hc.2 _ _ hB]; exact (h j hj).2⟩
theorem NAt.congr {f g : Nat → Nat} {n B : Nat} {w : World} (h : NAt f n B w) (e : ∀ j, j < n → f j = g j) : NAt g n B w := fun j hj => by rw [← e j hj]; exact h j hj
theorem IntsAt.at {w : World} {a : Option Addr} {n cap : Nat} {l : List Int} {i : Nat} {x : Int} (h : IntsAt w (.slice a n cap) l) (hx : l[i]? = some x) : ∃ b off, a = some ⟨b, off, none⟩ ∧ w.cell? ⟨b, off + i, none⟩ = some (.int .i64 x) := by
  obtain ⟨a', cap', e, h⟩ := h
  injection e with e1 e2 e3
  subst e1
  rcases h with h | ⟨b, off, rfl, hc⟩
  · rw [h] at hx; simp at hx
  · exact ⟨b, off, rfl, hc i x hx⟩
theorem NAt.made (w : World) (n : Nat) (t : TypeId) : NAt (fun _ => 0) n w.heap.size (w.alloc (.cells (madeCells #[.int .i64 0] n) t)) := fun j hj => by
  have hb : (w.alloc (.cells (madeCells #[.int .i64 0] n) t)).heap[w.heap.size]? = some (.cells (madeCells #[.int .i64 0] n) t) := heap_alloc_new w _
  refine ⟨?_, by simp⟩
  rw [Lib.cell_of_heap hb]
  simp [madeCells, hj, Nat.mod_one]
end Go.Proofs.Ytnfjbjmdempafaa
