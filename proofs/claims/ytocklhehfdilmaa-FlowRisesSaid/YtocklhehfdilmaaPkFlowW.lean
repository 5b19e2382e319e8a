/- flow: usersOf, the walk. -/
import Derived.Test.YtocklhehfdilmaaPkJ
namespace Go.Proofs.Ytocklhehfdilmaa
open Go.RowKit
theorem infoInts : (Try.prog.info? 51).map (fun i => (i.zero, i.size, i.bytes)) = some (some (.slice none 0 0), 1, 24) := by kernel_rfl
/-- What usersOf keeps in memory. -/
structure UsSt (rs : List PR) (ns : List PN) (rv nv : Value) (w : World) (k t c : Nat) (W : World) : Prop where
  lo : Below w.heap.size w W
  g : Bl W w.heap.size 25 #[rv, nv]
  v : Bl W (w.heap.size + 2) 54 #[.slice (some ⟨w.heap.size + 1, 0, none⟩) ns.length ns.length]
  u : ∃ U V, URows w.heap.size ns.length (w.heap.size + 1) U V W ∧ UInv rs ns U k t c
theorem UsSt.below {rs : List PR} {ns : List PN} {rv nv : Value} {w W W' : World} {k t c : Nat} (h : UsSt rs ns rv nv w k t c W) (hb : Below W.heap.size W W') : UsSt rs ns rv nv w k t c W' := by
  obtain ⟨h1, h2, h3, U, V, h4, h5⟩ := h
  exact ⟨bl_on h1 hb, h2.below hb, h3.below hb, U, V, h4.below hb, h5⟩
/-- The closure tells one user more. -/
theorem UsSt.use {rs : List PR} {ns : List PN} {rv nv : Value} {w W : World} {k t t' c i : Nat} (h : UsSt rs ns rv nv w k t c W) (hi : i < ns.length) (hc : c ≤ 900000) (hk : ∀ U, UInv rs ns U k t c → UInv rs ns (updU U i (U i ++ [(k : Int)])) k t' (c + 1)) :
    Calls Try.prog 32 #[.int .i64 (i : Int), .int .i64 (k : Int), .pointer (some ⟨w.heap.size + 2, 0, none⟩)] W fun e w' => (∃ v, e = .returned v) ∧ UsSt rs ns rv nv w k t' (c + 1) w' ∧ Kp w.heap.size (w.heap.size + 1) (w.heap.size + 1) 3 W w' := by
  obtain ⟨h1, h2, h3, U, V, h4, h5⟩ := h
  refine (fuse_any w.heap.size ns.length (w.heap.size + 1) (w.heap.size + 2) i (k : Int) U V W h4 h3 hi (Nat.le_trans (h5.len i) hc) h1.size).mono fun e w' ⟨he, V', g1, g2⟩ => ⟨he, ⟨h1.trans (g2.below (Nat.le_succ _) (Nat.le_succ _) h1.size), g2.bl h2 (by omega) (by omega) (by decide), g2.bl h3 (by omega) (by omega) (by decide), _, V', g1, hk U h5⟩, g2⟩
def UsersIs (rs : List PR) (ns : List PN) (w : World) (e : Ending) (w' : World) : Prop := ∃ U V, e = .returned (.slice (some ⟨w.heap.size + 1, 0, none⟩) ns.length ns.length) ∧ URows w.heap.size ns.length (w.heap.size + 1) U V w' ∧ UInv rs ns U ns.length 0 20000 ∧ Below w.heap.size w w'
set_option maxHeartbeats 8000000 in
set_option maxRecDepth 100000 in
theorem fusers_any (rv nv : Value) (rs : List PR) (ns : List PN) (w : World) (hR : RulesIn w rv rs) (hN : NodesAt w nv ns) (hO : FlowOk rs ns) :
    Calls Try.prog 22 #[.agg #[rv, nv]] w (UsersIs rs ns w) := by
  have hs := hO.nl
  obtain ⟨-, na, nc, rfl, hna⟩ := id hN
  have HR := Lib.hid (fun (W : World) (hb : Below w.heap.size w W) (r : Int) => froot_any rv (.slice na ns.length nc) rs r W (hR.kept hb (Nat.le_refl _)))
  obtain ⟨-, ra, rc, rfl, -⟩ := id hR
  have hmk := fun w => run_make_row' (P := Try.prog) 54 51 (.slice none 0 0) 24 Try.underlying54 infoInts rfl .i64 .i64 ns.length (by omega) (by omega) w
  have hmf : ∀ (fn : Fn) (first cap : Array Value) (w : World), (Instr.makeFunc fn first cap).run Try.prog w = .ok (.func fn first cap) w := fun _ _ _ _ => rfl
  clear hR hN
  go_enter Try.func22, Try.ntmps22
  go_wp2
  go_loopw [17] (fun d wr => ∃ k : Nat, k ≤ ns.length ∧ d = .int .i64 (k : Int) ∧ UsSt rs ns (.slice ra rs.length rc) (.slice na ns.length nc) w k 0 (k * 61) wr) (fun d _ => ns.length - (intOf d).toNat)
  case atStart =>
    refine ⟨0, Nat.zero_le _, rfl, bl_new (two_new _ _ _), Bl.past (Bl.past (Bl.new w _ _)), Bl.new' (by simp), fun _ => [], fun _ => .slice none 0 0, ⟨⟨madeCells #[.slice none 0 0] ns.length, Bl.past (Bl.new' (by simp)), fun i hi => ?_⟩, fun i hi => World.ownsRow_nil _ _ _ _, fun i j _ _ _ => .inl rfl⟩, UInv.start rs ns⟩
    simp [madeCells, hi, Nat.mod_one]
  case round =>
    obtain ⟨k, hk, rfl, hq⟩ := hrel
    have g0 : wr.cell? ⟨w.heap.size, 0, none⟩ = some (.slice ra rs.length rc) := hq.g.cell (o := 0) rfl
    have g1 : wr.cell? ⟨w.heap.size, 1, none⟩ = some (.slice na ns.length nc) := hq.g.cell (o := 1) rfl
    by_cases hlt : k < ns.length
    · have k1 : (k : Int) < (ns.length : Int) := by omega
      obtain ⟨n, hn⟩ : ∃ n, ns[k]? = some n := ⟨_, List.getElem?_eq_getElem hlt⟩
      rcases hna with h0 | ⟨nb, no, rfl, hca⟩
      · rw [h0] at hlt; exact absurd hlt (Nat.not_lt_zero _)
      obtain ⟨kv, c0, c1, c2, c3, c4, c5, c6, hki, -⟩ := hca k n hn
      have lr := lt_of_cell c0
      rw [← (bcell hq.lo).1 _ _ lr] at c0 c1 c2 c3 c4 c5 c6
      obtain ⟨ka, kc, rfl, hkc⟩ := hki
      have hI := hO.ok n (List.mem_of_getElem? hn)
      have HKID := Lib.hid hI.kid
      have HKL := Lib.hid (hO.kl n (List.mem_of_getElem? hn))
      have HN := Lib.hid hn
      have lw : nb < wr.heap.size := Nat.lt_of_lt_of_le lr hq.lo.size
      have HQ1 := Lib.hid (hq.below (one_new wr (.cells #[.int .i64 n.op, .slice ka n.kids.length kc, .int .i64 n.rule, .int .u64 n.s0, .int .u64 n.s1, .int .u64 n.s2, .int .u64 n.s3] 53)))
      have HNB := Lib.hid (Bl.new wr 53 #[.int .i64 n.op, .slice ka n.kids.length kc, .int .i64 n.rule, .int .u64 n.s0, .int .u64 n.s1, .int .u64 n.s2, .int .u64 n.s3])
      have hks : k * 61 ≤ 18300 := by omega
      have hne : wr.heap.size ≠ w.heap.size + 1 := by have := hq.v.lt; omega
      have HNE := Lib.hid hne
      have lg := hq.g.lt
      have lv2 := hq.v.lt
      clear hca hn hq hne
      by_cases e2 : n.op = 2
      · have q2 : (n.op == 2) = true := by rw [e2]; rfl
        obtain ⟨r, x, hr, hx, x0, x1⟩ := hI.root e2
        obtain ⟨i, hi⟩ : ∃ i : Nat, x.root = i := ⟨x.root.toNat, by omega⟩
        have hroot : rootF rs n.rule = (i : Int) := by rw [hr, rootF_at hx, hi]
        have hil : i < ns.length := by omega
        have HRT := Lib.hid hroot
        rw [e2] at c0 HQ1 HNB
        have HE2 := Lib.hid e2
        clear hI hr hx x0 x1 hi hroot e2 q2
        go_wp2_with (first
          | (go_at_call 29; (with_reducible refine (HR.out _ HQ1.out.lo n.rule).mono ?_); rintro e w5 ⟨rfl, hb⟩; rw [HRT.out]; have HQ5 := Lib.hid (HQ1.out.below hb); have HNB5 := Lib.hid (HNB.out.below hb); clear hb)
          | (go_at_call 32; (with_reducible refine (HQ5.out.use (t' := 1) (i := i) hil (by omega) (fun U h => h.call HN.out HRT.out)).mono ?_); rintro e w6 ⟨⟨v6, rfl⟩, hu6, hk6⟩; have n6 := hk6.bl HNB5.out HNE.out HNE.out (by decide); have b1 : w6.cell? ⟨wr.heap.size, 1, none⟩ = some (.slice ka n.kids.length kc) := n6.cell (o := 1) rfl; have ln := n6.lt; have HU8 := Lib.hid hu6; clear hu6 hk6 n6))
        go_loopw [35] (fun d wx => ∃ t : Nat, t ≤ n.kids.length ∧ d = .int .i64 (t : Int) ∧ UsSt rs ns (.slice ra rs.length rc) (.slice (some ⟨nb, no, none⟩) ns.length nc) w k (t + 1) (k * 61 + 1 + t) wx) (fun d _ => n.kids.length - (intOf d).toNat)
        case atStart => exact ⟨0, Nat.zero_le _, rfl, HU8.out⟩
        case round =>
          obtain ⟨t, ht, rfl, hq⟩ := hrel
          by_cases htl : t < n.kids.length
          · have t1 : (t : Int) < (n.kids.length : Int) := by omega
            obtain ⟨x, hx⟩ : ∃ x, n.kids[t]? = some x := ⟨_, List.getElem?_eq_getElem htl⟩
            have hkl := HKL.out
            obtain ⟨x0, x1⟩ := HKID.out x (List.mem_of_getElem? hx)
            obtain ⟨i, rfl⟩ : ∃ i : Nat, x = i := ⟨x.toNat, by omega⟩
            rcases hkc with h0 | ⟨kb, ko, rfl, hkc⟩
            · rw [h0] at htl; exact absurd htl (Nat.not_lt_zero _)
            have kx := hkc t _ hx
            have lk := lt_of_cell kx
            rw [← (bcell hq.lo).1 _ _ lk] at kx
            have HC := Lib.hid (hq.use (t' := t + 2) (i := i) (by omega) (by omega) (fun U h => h.kid HN.out hx))
            clear hx hkc hq
            go_wp2_with (go_at_call 32; (with_reducible refine HC.out.mono ?_); rintro e w7 ⟨⟨v7, rfl⟩, hu7, -⟩; have HU7 := Lib.hid hu7; clear hu7)
            go_roundw
            case rel => exact ⟨t + 1, by omega, by go_num, HU7.out⟩
            case measure => simp [intOf]; omega
          · obtain rfl : t = n.kids.length := by omega
            have t1 : ¬ (n.kids.length : Int) < (n.kids.length : Int) := by omega
            have HQ := Lib.hid hq
            clear hq
            go_wp2
            refine ⟨⟨k + 1, by omega, by go_num, ?_⟩, by simp [intOf]; omega⟩
            obtain ⟨a1, a2, a3, U, V, a4, a5⟩ := HQ.out
            exact ⟨a1, a2, a3, U, V, a4, (UInv.next HN.out a5).grow (by have := HKL.out; omega)⟩
      · have q2 : (n.op == 2) = false := ibeq_no e2
        have HU8 := Lib.hid (show UsSt rs ns (.slice ra rs.length rc) (.slice (some ⟨nb, no, none⟩) ns.length nc) w k 1 (k * 61 + 1) _ from by obtain ⟨a1, a2, a3, U, V, a4, a5⟩ := HQ1.out; exact ⟨a1, a2, a3, U, V, a4, (a5.nocall HN.out e2).grow (Nat.le_succ _)⟩)
        clear hI
        go_wp2
        go_loopw [35] (fun d wx => ∃ t : Nat, t ≤ n.kids.length ∧ d = .int .i64 (t : Int) ∧ UsSt rs ns (.slice ra rs.length rc) (.slice (some ⟨nb, no, none⟩) ns.length nc) w k (t + 1) (k * 61 + 1 + t) wx) (fun d _ => n.kids.length - (intOf d).toNat)
        case atStart => exact ⟨0, Nat.zero_le _, rfl, HU8.out⟩
        case round =>
          obtain ⟨t, ht, rfl, hq⟩ := hrel
          by_cases htl : t < n.kids.length
          · have t1 : (t : Int) < (n.kids.length : Int) := by omega
            obtain ⟨x, hx⟩ : ∃ x, n.kids[t]? = some x := ⟨_, List.getElem?_eq_getElem htl⟩
            have hkl := HKL.out
            obtain ⟨x0, x1⟩ := HKID.out x (List.mem_of_getElem? hx)
            obtain ⟨i, rfl⟩ : ∃ i : Nat, x = i := ⟨x.toNat, by omega⟩
            rcases hkc with h0 | ⟨kb, ko, rfl, hkc⟩
            · rw [h0] at htl; exact absurd htl (Nat.not_lt_zero _)
            have kx := hkc t _ hx
            have lk := lt_of_cell kx
            rw [← (bcell hq.lo).1 _ _ lk] at kx
            have HC := Lib.hid (hq.use (t' := t + 2) (i := i) (by omega) (by omega) (fun U h => h.kid HN.out hx))
            clear hx hkc hq
            go_wp2_with (go_at_call 32; (with_reducible refine HC.out.mono ?_); rintro e w7 ⟨⟨v7, rfl⟩, hu7, -⟩; have HU7 := Lib.hid hu7; clear hu7)
            go_roundw
            case rel => exact ⟨t + 1, by omega, by go_num, HU7.out⟩
            case measure => simp [intOf]; omega
          · obtain rfl : t = n.kids.length := by omega
            have t1 : ¬ (n.kids.length : Int) < (n.kids.length : Int) := by omega
            have HQ := Lib.hid hq
            clear hq
            go_wp2
            refine ⟨⟨k + 1, by omega, by go_num, ?_⟩, by simp [intOf]; omega⟩
            obtain ⟨a1, a2, a3, U, V, a4, a5⟩ := HQ.out
            exact ⟨a1, a2, a3, U, V, a4, (UInv.next HN.out a5).grow (by have := HKL.out; omega)⟩
    · obtain rfl : k = ns.length := by omega
      have k1 : ¬ (ns.length : Int) < (ns.length : Int) := by omega
      have b0 : wr.cell? ⟨w.heap.size + 2, 0, none⟩ = some (.slice (some ⟨w.heap.size + 1, 0, none⟩) ns.length ns.length) := hq.v.cell (o := 0) rfl
      have lv := hq.v.lt
      have HQ := Lib.hid hq
      clear hq
      go_wp2
      go_ret
      obtain ⟨a1, a2, a3, U, V, a4, a5⟩ := HQ.out
      exact ⟨U, V, rfl, a4, a5.grow (by omega), a1⟩
end Go.Proofs.Ytocklhehfdilmaa
