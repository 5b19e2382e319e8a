/- The reference's Expression and Ordered. -/
import Derived.Test.YtklimoepkifnhaaGramFew
namespace Go.Proofs.Ytklimoepkifnhaa
open Go.RowKit
theorem IntsAt.at' {w : World} {a : Option Addr} {n cap : Nat} {l : List Int} {i : Nat} {x : Int} (h : IntsAt w (.slice a n cap) l) (hx : l[i]? = some x) : ∃ b off, a = some ⟨b, off, none⟩ ∧ w.cell? ⟨b, off + i, none⟩ = some (.int .i64 x) := by
  obtain ⟨a', cap', e, h⟩ := h
  injection e with e1 e2 e3
  subst e1
  rcases h with h | ⟨b, off, rfl, hc⟩
  · rw [h] at hx; simp at hx
  · exact ⟨b, off, rfl, hc i x hx⟩
theorem take_rev {l : List Int} {k : Nat} {x : Int} (h : l[k]? = some x) : (l.take (k + 1)).reverse = x :: (l.take k).reverse := by
  rw [take_snoc' l k x h, List.reverse_append]; rfl
theorem expr_neg (ra na : Option Addr) (rn rc nn nc : Nat) (x : Int) (hx : x < 0) (w : World) :
    Calls Try.prog 48 #[.agg #[.slice ra rn rc, .slice na nn nc], .int .i64 x] w fun e w' => e = .returned (.int .i64 (-2)) ∧ Below w.heap.size w w' := by
  go_enter Try.func48, Try.ntmps48
  go_wp2
  go_ret
  exact ⟨rfl, one_new _ _⟩
set_option maxHeartbeats 4000000 in
set_option maxRecDepth 100000 in
theorem expr_nat (ra na : Option Addr) (rn rc nn nc : Nat) (ns : List PN) (hs : ns.length ≤ 1000000) : ∀ (f i : Nat) (w : World), i < f → i < ns.length → NodesAt w (.slice na nn nc) ns →
    Calls Try.prog 48 #[.agg #[.slice ra rn rc, .slice na nn nc], .int .i64 (i : Int)] w fun e w' => e = .returned (.int .i64 (exL ns i)) ∧ Below w.heap.size w w'
  | 0, i, w, h, _, _ => absurd h (Nat.not_lt_zero _)
  | f + 1, i, w, h, hi, hN => by
    have IH := fun (a : Int) (W : World) (ha : a < i) (hb : Below w.heap.size w W) => (show Calls Try.prog 48 #[.agg #[.slice ra rn rc, .slice na nn nc], .int .i64 a] W fun e w' => e = .returned (.int .i64 (exL ns a)) ∧ Below W.heap.size W w' by
      by_cases h0 : a < 0
      · rw [exL_neg ns a h0]; exact expr_neg _ _ _ _ _ _ a h0 W
      · obtain ⟨m, rfl⟩ : ∃ m : Nat, a = m := ⟨a.toNat, by omega⟩
        exact expr_nat ra na rn rc nn nc ns hs f m W (by omega) (by omega) (hN.kept hb (Nat.le_refl _)))
    have HI := Lib.hid IH
    clear IH
    obtain ⟨n, hn⟩ : ∃ n, ns[i]? = some n := ⟨_, List.getElem?_eq_getElem hi⟩
    have hE := exL_eq ns (i : Int) (by omega)
    rw [show (i : Int).toNat = i by omega, kidsAt_some hn] at hE
    have HE := Lib.hid hE
    have HB0 := Lib.hid (Below.refl w.heap.size w)
    clear hE
    obtain ⟨-, a, ca, he, hA⟩ := hN
    injection he with e1 e2 e3
    subst e1 e2 e3
    rcases hA with h0 | ⟨nb, no, rfl, hca⟩
    · rw [h0] at hi; exact absurd hi (Nat.not_lt_zero _)
    obtain ⟨kv, c0, c1, c2, c3, c4, c5, c6, ci, cl⟩ := hca i n hn
    have CI := Lib.hid ci
    obtain ⟨ka, kc, rfl, -⟩ := ci
    have lb := lt_of_cell c0
    have k1 : (i : Int) < (ns.length : Int) := by omega
    have HC1 := Lib.hid c1
    unfold maxLen at cl
    clear hca hn c0 c2 c3 c4 c5 c6
    go_enter Try.func48, Try.ntmps48
    go_wp2
    clear c1
    go_loopw [5, 6] (fun va vk wr => ∃ (t : Nat) (a z : Int), t ≤ n.kids.length ∧ va = .int .i64 a ∧ vk = .int .i64 z ∧ z = (t : Int) - 1 ∧ -1 ≤ a ∧ a < i ∧ chainL (exL ns) (n.kids.take t).reverse a = exL ns i ∧ Below w.heap.size w wr ∧ w.heap.size < wr.heap.size ∧ wr.cell? ⟨w.heap.size, 1, none⟩ = some (.slice (some ⟨nb, no, none⟩) ns.length nc) ∧ wr.cell? ⟨w.heap.size, 0, none⟩ = some (.slice ra rn rc)) (fun _ vk _ => (intOf vk + 1).toNat)
    case atStart => exact ⟨n.kids.length, _, _, Nat.le_refl _, rfl, rfl, rfl, by omega, by omega, by rw [List.take_length]; exact HE.out.symm, one_new _ _, by simp, by simp, by simp⟩
    case round =>
      obtain ⟨t, a, z, ht, rfl, rfl, hz, ha1, ha2, hch, hbw, hsw, b1, b0⟩ := hrel
      have HCH := Lib.hid hch
      have c1 := HC1.out
      rw [← (bcell hbw).1 _ _ lb] at c1
      have CI2 := Lib.hid (CI.out.kept hbw (Nat.le_refl _))
      have HW := Lib.hid hbw
      have hsz := hbw.size
      clear hch hbw
      by_cases ht0 : t = 0
      · subst ht0
        obtain rfl : z = -1 := by omega
        have HR : Hid (a = exL ns i) := Lib.hid (by have := HCH.out; rw [List.take_zero] at this; exact this)
        clear hz ht
        go_wp2
        go_ret
        exact ⟨ret_int HR.out, HW.out⟩
      · obtain ⟨k, rfl⟩ : ∃ k, t = k + 1 := ⟨t - 1, by omega⟩
        obtain rfl : z = (k : Int) := by omega
        clear hz ht0
        obtain ⟨x, hx⟩ : ∃ x, n.kids[k]? = some x := ⟨_, List.getElem?_eq_getElem (by omega)⟩
        obtain ⟨kb, ko, rfl, ck⟩ := CI2.out.at' hx
        have hrv := take_rev hx
        have k2 : (k : Int) < (n.kids.length : Int) := by omega
        rw [hrv] at HCH
        clear hx hrv
        by_cases hxa : x = a
        · subst hxa
          have q1 : (x != x) = false := by simp
          by_cases he : exL ns x = -2
          · have hq : exL ns (i : Int) = -2 := by rw [← HCH.out, chainL_stop he]
            have HQ := Lib.hid hq
            have HC := Lib.hid (HI.out x wr ha2 HW.out)
            rw [he] at HC
            clear he hq
            go_wp2_with (go_at_call 48; (with_reducible refine HC.out.mono ?_); rintro e w1 ⟨rfl, hb⟩; have HW1 := Lib.hid (HW.out.trans (hb.mono hsz)); clear hb)
            go_ret
            exact ⟨ret_int HQ.out.symm, HW1.out⟩
          · have hl := exL_lt ns x he
            have hs := chainL_step (ex := exL ns) (a := x) (ks := (n.kids.take k).reverse) he
            rw [hs] at HCH
            have HC := Lib.hid (HI.out x wr ha2 HW.out)
            generalize exL ns x = y at *
            have q2 : (y == -2) = false := ibeq_no he
            clear he hs
            go_wp2_with (go_at_call 48; (with_reducible refine HC.out.mono ?_); rintro e w1 ⟨rfl, hb⟩; have HW1 := Lib.hid (HW.out.trans (hb.mono hsz)); have b1' := (bcell hb).1 _ 1 hsw; have b0' := (bcell hb).1 _ 0 hsw; rw [b1] at b1'; rw [b0] at b0'; have hsw1 := Nat.lt_of_lt_of_le hsw hb.size; clear hb)
            go_roundw
            case rel => exact ⟨k, y, (k : Int) - 1, by omega, rfl, rfl, rfl, by omega, by omega, HCH.out, HW1.out, hsw1, b1', b0'⟩
            case measure => simp [intOf]
        · have q1 : (x != a) = true := ibne_yes hxa
          have HQ : Hid (exL ns (i : Int) = -2) := Lib.hid (by rw [← HCH.out, chainL_bad hxa])
          go_wp2
          go_ret
          exact ⟨ret_int HQ.out.symm, HW.out⟩
theorem expr_any (ra na : Option Addr) (rn rc nn nc : Nat) (ns : List PN) (hs : ns.length ≤ 1000000) (a : Int) (ha : a < ns.length) (w : World) (hN : NodesAt w (.slice na nn nc) ns) :
    Calls Try.prog 48 #[.agg #[.slice ra rn rc, .slice na nn nc], .int .i64 a] w fun e w' => e = .returned (.int .i64 (exL ns a)) ∧ Below w.heap.size w w' := by
  by_cases h0 : a < 0
  · rw [exL_neg ns a h0]; exact expr_neg _ _ _ _ _ _ a h0 w
  · obtain ⟨m, rfl⟩ : ∃ m : Nat, a = m := ⟨a.toNat, by omega⟩
    exact expr_nat ra na rn rc nn nc ns hs (m + 1) m w (Nat.lt_succ_self _) (by omega) hN
set_option maxHeartbeats 4000000 in
set_option maxRecDepth 100000 in
theorem ordered_any (rv : Value) (na : Option Addr) (nn nc : Nat) (rs : List PR) (ns : List PN) (w : World) (hs : ns.length ≤ 1000000) (hR : RulesIn w rv rs) (hN : NodesAt w (.slice na nn nc) ns) :
    Calls Try.prog 45 #[.agg #[rv, .slice na nn nc]] w fun e w' => e = .returned (.bool (ordR ns rs (-1))) ∧ Below w.heap.size w w' := by
  have hN' := hN
  obtain ⟨-, na', nc', hne, -⟩ := hN'
  injection hne with n1 n2 n3
  subst n1 n2 n3
  obtain ⟨hlr, ra, rc, rfl, hra⟩ := hR
  unfold maxLen at hlr
  have HX := Lib.hid (fun (a : Int) (W : World) (ha : a < ns.length) (hb : Below w.heap.size w W) => expr_any ra na rs.length rc ns.length nc ns hs a ha W (hN.kept hb (Nat.le_refl _)))
  clear hN
  go_enter Try.func45, Try.ntmps45
  go_wp2
  go_loopw [3, 4] (fun vb vc wr => ∃ (k : Nat) (b : Int), k ≤ rs.length ∧ vb = .int .i64 b ∧ vc = .int .i64 k ∧ -1 ≤ b ∧ b < (ns.length : Int) + 1 ∧ ordR ns (rs.drop k) b = ordR ns rs (-1) ∧ Below w.heap.size w wr ∧ w.heap.size < wr.heap.size ∧ wr.cell? ⟨w.heap.size, 1, none⟩ = some (.slice na ns.length nc) ∧ wr.cell? ⟨w.heap.size, 0, none⟩ = some (.slice ra rs.length rc)) (fun _ vc _ => rs.length - (intOf vc).toNat)
  case atStart => exact ⟨0, -1, Nat.zero_le _, rfl, rfl, by omega, by omega, rfl, one_new _ _, by simp, by simp, by simp⟩
  case round =>
    obtain ⟨k, b, hk, rfl, rfl, hb1, hb2, ho, hbw, hsw, b1, b0⟩ := hrel
    have HO := Lib.hid ho
    clear ho
    by_cases hlt : k < rs.length
    · obtain ⟨r, hr⟩ : ∃ r, rs[k]? = some r := ⟨_, List.getElem?_eq_getElem hlt⟩
      rcases hra with h0 | ⟨rb, ro, rfl, hca⟩
      · rw [h0] at hlt; exact absurd hlt (Nat.not_lt_zero _)
      obtain ⟨c0, c1⟩ := (hca k r hr).kept hbw (Nat.le_refl _)
      have lb := lt_of_cell c0
      have hcd : rs.drop k = r :: rs.drop (k + 1) := by
        obtain ⟨h1, h2⟩ := List.getElem?_eq_some_iff.1 hr
        rw [List.drop_eq_getElem_cons h1, h2]
      rw [hcd] at HO
      have k1 : (k : Int) < (rs.length : Int) := by omega
      have HW := Lib.hid hbw
      have hsz := hbw.size
      clear hca hr hbw hcd c0
      by_cases h1 : r.root ≤ b
      · have HF : Hid (ordR ns rs (-1) = false) := Lib.hid (by
          rw [← HO.out]
          show (if r.root ≤ b ∨ (ns.length : Int) ≤ r.root ∨ exL ns r.root ≠ b then false else _) = false
          rw [if_pos (Or.inl h1)])
        go_wp2
        go_ret
        exact ⟨ret_bool HF.out.symm, HW.out⟩
      · by_cases h2 : (ns.length : Int) ≤ r.root
        · have HF : Hid (ordR ns rs (-1) = false) := Lib.hid (by
            rw [← HO.out]
            show (if r.root ≤ b ∨ (ns.length : Int) ≤ r.root ∨ exL ns r.root ≠ b then false else _) = false
            rw [if_pos (Or.inr (Or.inl h2))])
          go_wp2
          go_ret
          exact ⟨ret_bool HF.out.symm, HW.out⟩
        · have HC := Lib.hid (HX.out r.root wr (by omega) HW.out)
          by_cases h3 : exL ns r.root = b
          · have HT := Lib.hid (ordR_mk (t := rs.drop (k + 1)) (by omega) (by omega) h3)
            rw [h3] at HC
            have q1 : (b != b) = false := by simp
            clear h3
            go_wp2_with (go_at_call 48; (with_reducible refine HC.out.mono ?_); rintro e w1 ⟨rfl, hb⟩; have HW1 := Lib.hid (HW.out.trans (hb.mono hsz)); have b1' := (bcell hb).1 _ 1 hsw; have b0' := (bcell hb).1 _ 0 hsw; rw [b1] at b1'; rw [b0] at b0'; have d1 := (bcell hb).1 _ (ro + k * 2 + 1) lb; rw [c1] at d1; have hsw1 := Nat.lt_of_lt_of_le hsw hb.size; clear hb)
            go_roundw
            case rel => exact ⟨k + 1, r.root, by omega, rfl, by go_num, by omega, by omega, by rw [← HT.out]; exact HO.out, HW1.out, hsw1, b1', b0'⟩
            case measure => simp [intOf]; omega
          · have HF : Hid (ordR ns rs (-1) = false) := Lib.hid (by
              rw [← HO.out]
              show (if r.root ≤ b ∨ (ns.length : Int) ≤ r.root ∨ exL ns r.root ≠ b then false else _) = false
              rw [if_pos (Or.inr (Or.inr h3))])
            generalize exL ns r.root = y at HC h3
            have q1 : (y != b) = true := ibne_yes h3
            clear h3
            go_wp2_with (go_at_call 48; (with_reducible refine HC.out.mono ?_); rintro e w1 ⟨rfl, hb⟩; have HW1 := Lib.hid (HW.out.trans (hb.mono hsz)); clear hb)
            go_ret
            exact ⟨ret_bool HF.out.symm, HW1.out⟩
    · obtain rfl : k = rs.length := by omega
      have k1 : ¬ (rs.length : Int) < (rs.length : Int) := by omega
      have HF : Hid (ordR ns rs (-1) = (b == (ns.length : Int) - 1)) := Lib.hid (by rw [← HO.out, List.drop_length]; rfl)
      have HW := Lib.hid hbw
      clear hbw hra
      go_wp2
      go_ret
      exact ⟨ret_bool HF.out.symm, HW.out⟩
end Go.Proofs.Ytklimoepkifnhaa
