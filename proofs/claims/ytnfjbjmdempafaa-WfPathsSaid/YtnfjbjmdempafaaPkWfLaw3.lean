/- The law WfPaths. Written by wip/gen/wflaws.py. -/
import Derived.Deep.RegionWith
import Derived.Deep.Cut
import Derived.Deep.CutRange
import Derived.Test.YtnfjbjmdempafaaPkWE
import Derived.Test.YtnfjbjmdempafaaPkFlowLaw0
import Derived.Test.YtnfjbjmdempafaaPkWfRet
import Derived.Test.YtnfjbjmdempafaaPkWfReg
namespace Go.Proofs.Ytnfjbjmdempafaa
open Go.RowKit
theorem idxP_mem {p : Nat → Bool} {N x : Nat} (hx : x < N) : (x : Int) ∈ idxP p N ↔ p x = true := by
  unfold idxP
  rw [List.mem_map]
  constructor
  · rintro ⟨y, hy, e⟩
    have : y = x := by omega
    subst this
    exact (List.mem_filter.1 hy).2
  · exact fun h => ⟨x, List.mem_filter.2 ⟨List.mem_range.2 hx, h⟩, rfl⟩
set_option maxHeartbeats 16000000 in
set_option maxRecDepth 100000 in
theorem law12_paths (rv nv : Value) (rs : List PR) (ns : List PN) (k0 : Nat) (hk0 : k0 ≤ 65535) (w : World) (hR : RulesIn w rv rs) (hN : NodesAt w nv ns) (hC : CapsAt w nv ns.length) :
    Calls Try.prog 5 #[.agg #[rv, nv], .int .u16 (k0 : Int)] w fun e w' => e = .returned (.bool true) ∧ Below w.heap.size w w' := by
  have HS := Lib.hid (fun (W : World) (hb : Below w.heap.size w W) => rsmall_any rv nv rs ns W (hR.kept hb (Nat.le_refl _)) (hN.kept hb (Nat.le_refl _)))
  obtain ⟨na, nc, rfl⟩ : ∃ na nc, nv = .slice na ns.length nc := by obtain ⟨-, na, nc, rfl, -⟩ := hN; exact ⟨na, nc, rfl⟩
  cases hsm : (fewB rs ns && okB (chkL rs ns)) with
  | false =>
    rw [hsm] at HS
    obtain ⟨-, ra, rc, rfl, -⟩ := hR
    clear hsm hN hC hk0
    go_enter Try.func5, Try.ntmps5
    go_upto_region 2 with (first
      | (go_at_call 7; (with_reducible refine (awake12_any _).mono ?_); rintro e w2 ⟨rfl, hb⟩; have HW := Lib.hid (bl_on (one_new w _) hb); have b0 := (bcell hb).1 w.heap.size 0 (by simp); have b1 := (bcell hb).1 w.heap.size 1 (by simp); simp at b0 b1; clear hb)
      | (go_at_call 8; (with_reducible refine (HS.out _ HW.out).mono ?_); rintro e w3 ⟨rfl, hb⟩; replace HW := Lib.hid (bl_on HW.out hb); clear hb b0 b1))
    go_wp2_with (go_at_call 7; (with_reducible refine (awake12_any _).mono ?_); rintro e w4 ⟨rfl, hb⟩; replace HW := Lib.hid (bl_on HW.out hb); clear hb)
    go_ret
    exact ⟨rfl, HW.out⟩
  | true =>
    obtain ⟨hO, hr0, -⟩ := small11 hsm
    have hs := hO.nl
    have hr0' : 0 < ns.length := by
      obtain ⟨x, hx⟩ : ∃ x, rs[0]? = some x := ⟨_, List.getElem?_eq_getElem hr0⟩
      have := root11 hsm hx
      omega
    have hkl : k0 % ns.length < ns.length := Nat.mod_lt _ hr0'
    obtain ⟨n, hn⟩ : ∃ n, ns[k0 % ns.length]? = some n := ⟨_, List.getElem?_eq_getElem hkl⟩
    have hrem : (k0 : Int).tmod (ns.length : Int) = ((k0 % ns.length : Nat) : Int) := by rw [Int.tmod_eq_emod_of_nonneg (by omega)]; first | rfl | exact (Int.natCast_emod _ _).symm | exact (Int.ofNat_emod _ _).symm
    have hmod : (k0 : Int) % (ns.length : Int) = ((k0 % ns.length : Nat) : Int) := by first | rfl | exact (Int.natCast_emod _ _).symm | exact (Int.ofNat_emod _ _).symm
    have hk6 : (k0 : Int) ≤ 65535 := by omega
    have hk7 : (0 : Int) ≤ (k0 : Int) := by omega
    have hNp : (0 : Int) < (ns.length : Int) := by omega
    have hNz : ((ns.length : Int) == 0) = false := ibeq_no (by omega)
    have hNz' : ¬ (ns.length : Int) = 0 := by omega
    rw [hsm] at HS
    obtain ⟨ii, hii, hz0, hz1, hz2⟩ := info_parts infoInt
    have HLp := Lib.hid (fun (W : World) (hb : Below w.heap.size w W) => wloops_any rv _ rs ns W (hR.kept hb (Nat.le_refl _)) (hN.kept hb (Nat.le_refl _)) hO)
    have HNd := Lib.hid (fun (W : World) (hb : Below w.heap.size w W) (x : Nat) (n : PN) (hn : ns[x]? = some n) => r12needs_any rv _ rs ns x n W (hR.kept hb (Nat.le_refl _)) (hN.kept hb (Nat.le_refl _)) hO hn)
    have HRt := Lib.hid (fun (W : World) (hb : Below w.heap.size w W) (x : Nat) (b : Bool) (hx : x < ns.length) (h : b = true ↔ RchG (needW rs ns (lfp rs ns)) x x) => returns_any rv _ rs ns x b W (hR.kept hb (Nat.le_refl _)) (hN.kept hb (Nat.le_refl _)) hO hx h)
    have HOf := Lib.hid (fun (W : World) (hb : Below w.heap.size w W) => wof_any rv _ rs ns W (hR.kept hb (Nat.le_refl _)) (hN.kept hb (Nat.le_refl _)) (hC.kept hN rfl hb) hO)
    have HOK := Lib.hid hO
    have HNI := Lib.hid (needW_in hO.ok (L := lfp rs ns))
    have HRD := Lib.hid (fun (x : Nat) (n : PN) (hn : ns[x]? = some n) => needs_read hO hn)
    have HLM := Lib.hid (fun (x : Nat) (hx : x < ns.length) => idxP_mem (p := loopW ns (lfp rs ns)) hx)
    have hlpl := idxP_len (loopW ns (lfp rs ns)) ns.length
    obtain ⟨-, ra, rc, rfl, -⟩ := hR
    unfold NeedIs at HNd
    unfold OfIs at HOf
    unfold RowIs at HLp
    generalize hI : k0 % ns.length = I at *
    have I1 : (I : Int) < (ns.length : Int) := by omega
    have hbI := wfL_at (rs := rs) hkl
    have HWI := Lib.hid ((wfL_is hO hkl).trans (WfG.paths (needW_in hO.ok) hkl))
    generalize itG (needW rs ns (lfp rs ns)) (loopW ns (lfp rs ns)) (ns.length + 1) I = bI at *
    generalize hnd : needW rs ns (lfp rs ns) = need at *
    generalize hll : idxP (loopW ns (lfp rs ns)) ns.length = Lp at *
    generalize loopW ns (lfp rs ns) = loop at *
    have HBI := Lib.hid hbI
    clear hsm hN hC hO hn hr0 hr0' hI hbI hll
    go_enter Try.func5, Try.ntmps5
    go_upto_region 3 with (first
      | (go_at_call 7; (with_reducible refine (awake12_any _).mono ?_); rintro e w2 ⟨rfl, hb⟩; have HW := Lib.hid (bl_on (one_new w _) hb); have HG := Lib.hid ((Bl.new w 25 #[.slice ra rs.length rc, .slice na ns.length nc]).below hb); have b0 : w2.cell? ⟨w.heap.size, 0, none⟩ = some (.slice ra rs.length rc) := HG.out.cell (o := 0) rfl; have b1 : w2.cell? ⟨w.heap.size, 1, none⟩ = some (.slice na ns.length nc) := HG.out.cell (o := 1) rfl; have lg := HG.out.lt; clear hb)
      | (go_at_call 8; (with_reducible refine (HS.out _ HW.out).mono ?_); rintro e w3 ⟨rfl, hb⟩; replace HW := Lib.hid (bl_on HW.out hb); replace HG := Lib.hid (HG.out.below hb); have d0 : w3.cell? ⟨w.heap.size, 0, none⟩ = some (.slice ra rs.length rc) := HG.out.cell (o := 0) rfl; have d1 : w3.cell? ⟨w.heap.size, 1, none⟩ = some (.slice na ns.length nc) := HG.out.cell (o := 1) rfl; have lg := HG.out.lt; clear hb b0 b1))
    clear HS
    go_upto_region 5 with (go_at_call 12; (with_reducible refine (HLp.out _ HW.out).mono ?_); rintro e w5 ⟨v5, rfl, ho, hb⟩; obtain ⟨la, lc, rfl⟩ := own_slice' ho; have HL5 := Lib.hid (IntsAt.of_own ho); have HW5 := Lib.hid (bl_on HW.out hb); have HG5 := Lib.hid (HG.out.below hb); have d0 : w5.cell? ⟨w.heap.size, 0, none⟩ = some (.slice ra rs.length rc) := HG5.out.cell (o := 0) rfl; have d1 : w5.cell? ⟨w.heap.size, 1, none⟩ = some (.slice na ns.length nc) := HG5.out.cell (o := 1) rfl; have lg := HG5.out.lt; clear hb ho)
    clear HW HG HLp
    obtain ⟨B, hB⟩ : ∃ B, w5.heap.size = B := ⟨_, rfl⟩
    have HBB := Lib.hid hB
    go_wp2
    have hst : (w5.alloc (.cells #[.int .i64 (I : Int)] 3)).ownsRow B 3 1 (.slice (some ⟨B, 0, none⟩) 1 1) [I].length (intsV (natI [I])) := by have h := own_lit1 w5 B (I : Int) (Nat.le_of_eq hB.symm); rw [hB] at h; exact h
    have HST := Lib.hid hst
    have HB6 := Lib.hid (show Below B w5 (w5.alloc (.cells #[.int .i64 (I : Int)] 3)) by rw [← hB]; exact one_new _ _)
    have HZ6 := Lib.hid (show B ≤ (w5.alloc (.cells #[.int .i64 (I : Int)] 3)).heap.size by rw [← hB]; exact (one_new _ _).size)
    clear hst hB d0 d1 lg
    go_loopg [7, 8, 9] (1 + ns.length) (fun g s v c wr => ∃ (k : Nat) (sn : List Nat) (bd : Bool), k ≤ sn.length ∧ c = .int .i64 (k : Int) ∧ v = .bool bd ∧ 1 + ns.length - k = g ∧ wr.ownsRow B 3 1 s sn.length (intsV (natI sn)) ∧ SeenG need ns.length [I] sn k 0 ∧ Below B w5 wr ∧ B ≤ wr.heap.size ∧ (bd = true ↔ ∃ t x, t < k ∧ sn[t]? = some x ∧ (loop x = true ∨ RchG need x x)))
    case atStart => exact ⟨0, [I], false, Nat.zero_le _, rfl, rfl, rfl, HST.out, SeenG.start (fun x hx => by obtain rfl := List.mem_singleton.1 hx; exact hkl), HB6.out, HZ6.out, ⟨fun h => (by cases h), fun ⟨t, x, h, _⟩ => absurd h (Nat.not_lt_zero _)⟩⟩
    case round =>
      clear HST HB6 HZ6
      obtain ⟨k, sn, bd, hk, rfl, rfl, hg, ho, hse, hb, hz, hbd⟩ := hrel
      obtain ⟨sa, sc, rfl⟩ := own_slice' ho
      have hsl := hse.len
      rw [List.length_singleton] at hsl
      have hgr := HG5.out.below (by rw [HBB.out]; exact hb)
      have d0 : wr.cell? ⟨w.heap.size, 0, none⟩ = some (.slice ra rs.length rc) := hgr.cell (o := 0) rfl; have d1 : wr.cell? ⟨w.heap.size, 1, none⟩ = some (.slice na ns.length nc) := hgr.cell (o := 1) rfl; have lg := hgr.lt
      have hbw : Below w.heap.size w wr := bl_on HW5.out (by rw [HBB.out]; exact hb)
      have hl5 := HL5.out.kept (n := B) hb (Nat.le_of_eq HBB.out)
      by_cases hlt : k < sn.length
      · have k1 : (k : Int) < (sn.length : Int) := by omega
        obtain ⟨x, hx⟩ : ∃ x, sn[k]? = some x := ⟨_, List.getElem?_eq_getElem hlt⟩
        have hxN := hse.lt x (List.mem_of_getElem? hx)
        obtain ⟨sb, rfl, hsb, hc, -⟩ := own_open' ho (by omega)
        have cz := hc k _ (natI_at hx)
        have lz := lt_of_cell cz
        obtain ⟨b2, hb2⟩ : ∃ b : Bool, b = true ↔ RchG need x x := by classical exact ⟨decide (RchG need x x), decide_eq_true_iff⟩
        have hb1 : decide ((x : Int) ∈ Lp) = loop x := by
          cases hlx : loop x with
          | true => exact decide_eq_true ((HLM.out x hxN).2 hlx)
          | false => exact decide_eq_false fun h => by have := (HLM.out x hxN).1 h; rw [hlx] at this; cases this
        have HH := Lib.hid (fun (W : World) (hb : Below wr.heap.size wr W) => has_int _ Lp (x : Int) (loop x) W (by omega) (hl5.kept hb (Nat.le_refl _)) hb1)
        have HR2 := Lib.hid (fun (W : World) (hb : Below wr.heap.size wr W) => HRt.out W (bl_on hbw hb) x b2 hxN hb2)
        have hbd2 : (bd || (loop x || b2)) = true ↔ ∃ t y, t < k + 1 ∧ sn[t]? = some y ∧ (loop y = true ∨ RchG need y y) := by
          rw [Bool.or_eq_true, Bool.or_eq_true, hbd, hb2]
          constructor
          · rintro (⟨t, y, h1, h2, h3⟩ | h)
            · exact ⟨t, y, by omega, h2, h3⟩
            · exact ⟨k, x, by omega, hx, h⟩
          · rintro ⟨t, y, h1, h2, h3⟩
            by_cases e : t = k
            · subst e
              rw [hx] at h2
              cases h2
              exact .inr h3
            · exact .inl ⟨t, y, by omega, h2, h3⟩
        obtain ⟨y, hy⟩ : ∃ y, ns[x]? = some y := ⟨_, List.getElem?_eq_getElem hxN⟩
        obtain ⟨hr1, hr2, hr3⟩ := HRD.out x y hy
        have HCN := Lib.hid (fun (W : World) (hb : Below wr.heap.size wr W) => HNd.out W (bl_on hbw hb) x y hy)
        have HR3 := Lib.hid hr3
        have HX := Lib.hid hx
        have HO := Lib.hid ho
        have HSE := Lib.hid hse
        have HB := Lib.hid hb
        have HBD := Lib.hid hbd2
        have HGR := Lib.hid hgr
        have CZ := Lib.hid cz
        generalize needN rs (lfp rs ns) y = q at *
        generalize hlb : loop x = b1 at HH HBD
        clear ho hse hb hbd hbd2 hc hx hgr hbw hy hr3 hl5 hb1 hb2 hlb
        go_upto_region 10 with fail
        go_cut [8] from 31 to 79 (fun v wx => v = .bool (bd || (b1 || b2)) ∧ Below wr.heap.size wr wx)
        case first =>
          refine wp_region_un (by kernel_rfl) (WpT la Lp.length lc sb sn.length sc k x (.slice ra rs.length rc) (.slice na ns.length nc) bd b1 b2) AnyW (fun _ W => Below wr.heap.size wr W) (by kernel_rfl) (by kernel_rfl) (by kernel_rfl) (WpT_mono _ _ _ _ _ _ _ _ _ _ _ _ _) (Below.refl _ _).drew ?steps ?done
          case steps =>
            refine ⟨?_, ?_, ?_, ?_, ?_, ?_, ?_, ?_, ?_, ?_, ?_, ?_, ?_, ?_, ?_, ?_, ?_, ?_, trivial⟩
            · intro L a W hL hj hS hk hd
              have p : a.eval (.tmp 8) = .bool bd := hk 8 (un_last (i := 17) (by kernel_rfl) (hj 17 (by kernel_rfl)))
              clear hk hd hj
              refine pay_plain rfl ?_
              exact on_value (.bool bd) (by generalize a.eval = ρ at *; simp [go_sem, p]) (rfl) (anyW _ _) hS
            · intro L a W hL hj hS hk hd
              have p : a.eval (.tmp 37) = .bool bd := hd 0 37 (by kernel_rfl)
              clear hk hd hj
              refine pay_plain rfl ?_
              exact on_value (.bool bd) (by generalize a.eval = ρ at *; simp [go_sem, p]) (rfl) (anyW _ _) hS
            · intro L a W hL hj hS hk hd
              have p : a.eval (.tmp 6) = .slice la Lp.length lc := hk 6 (un_none (by kernel_rfl))
              cases hgb : bd with
              | true =>
                have hg : a.eval (.tmp 38) = .bool true := (hd 1 38 (by kernel_rfl)).trans (by rw [hgb])
                exact pay_skip (b := false) rfl rfl hg (by decide) ⟨fun h => (by first | cases h | (rw [hgb] at h; cases h)), anyW _ _, hS⟩
              | false =>
                have hg : a.eval (.tmp 38) = .bool false := (hd 1 38 (by kernel_rfl)).trans (by rw [hgb])
                clear hk hd hj
                refine pay_guard (j := 1) (b := false) (d := 38) rfl rfl hg ?_
                exact on_value (.slice la Lp.length lc) (by generalize a.eval = ρ at *; simp [go_sem, p]) (fun _ => rfl) (anyW _ _) hS
            · intro L a W hL hj hS hk hd
              have p : a.eval (.tmp 7) = .slice (some ⟨sb, 0, none⟩) sn.length sc := hk 7 (un_none (by kernel_rfl))
              cases hgb : bd with
              | true =>
                have hg : a.eval (.tmp 38) = .bool true := (hd 1 38 (by kernel_rfl)).trans (by rw [hgb])
                exact pay_skip (b := false) rfl rfl hg (by decide) ⟨fun h => (by first | cases h | (rw [hgb] at h; cases h)), anyW _ _, hS⟩
              | false =>
                have hg : a.eval (.tmp 38) = .bool false := (hd 1 38 (by kernel_rfl)).trans (by rw [hgb])
                clear hk hd hj
                refine pay_guard (j := 1) (b := false) (d := 38) rfl rfl hg ?_
                exact on_value (.slice (some ⟨sb, 0, none⟩) sn.length sc) (by generalize a.eval = ρ at *; simp [go_sem, p]) (fun _ => rfl) (anyW _ _) hS
            · intro L a W hL hj hS hk hd
              have p : a.eval (.tmp 9) = .int .i64 (k : Int) := hk 9 (un_none (by kernel_rfl))
              cases hgb : bd with
              | true =>
                have hg : a.eval (.tmp 38) = .bool true := (hd 1 38 (by kernel_rfl)).trans (by rw [hgb])
                exact pay_skip (b := false) rfl rfl hg (by decide) ⟨fun h => (by first | cases h | (rw [hgb] at h; cases h)), anyW _ _, hS⟩
              | false =>
                have hg : a.eval (.tmp 38) = .bool false := (hd 1 38 (by kernel_rfl)).trans (by rw [hgb])
                clear hk hd hj
                refine pay_guard (j := 1) (b := false) (d := 38) rfl rfl hg ?_
                exact on_value (.int .i64 (k : Int)) (by generalize a.eval = ρ at *; simp [go_sem, p]) (fun _ => rfl) (anyW _ _) hS
            · intro L a W hL hj hS hk hd
              cases hgb : bd with
              | true =>
                have hg : a.eval (.tmp 38) = .bool true := (hd 1 38 (by kernel_rfl)).trans (by rw [hgb])
                exact pay_skip (b := false) rfl rfl hg (by decide) ⟨fun h => (by first | cases h | (rw [hgb] at h; cases h)), anyW _ _, hS⟩
              | false =>
                have hg : a.eval (.tmp 38) = .bool false := (hd 1 38 (by kernel_rfl)).trans (by rw [hgb])
                have p1 : a.eval (.tmp 40) = .slice (some ⟨sb, 0, none⟩) sn.length sc := hd 3 40 (by kernel_rfl) hgb
                have p2 : a.eval (.tmp 41) = .int .i64 (k : Int) := hd 4 41 (by kernel_rfl) hgb
                clear hk hd hj
                refine pay_guard (j := 1) (b := false) (d := 38) rfl rfl hg ?_
                exact on_value (.pointer (some ⟨sb, k, none⟩)) (by generalize a.eval = ρ at *; simp [go_sem, p1, p2, k1]) (fun _ => rfl) (anyW _ _) hS
            · intro L a W hL hj hS hk hd
              cases hgb : bd with
              | true =>
                have hg : a.eval (.tmp 38) = .bool true := (hd 1 38 (by kernel_rfl)).trans (by rw [hgb])
                exact pay_skip (b := false) rfl rfl hg (by decide) ⟨fun h => (by first | cases h | (rw [hgb] at h; cases h)), anyW _ _, hS⟩
              | false =>
                have hg : a.eval (.tmp 38) = .bool false := (hd 1 38 (by kernel_rfl)).trans (by rw [hgb])
                have p1 : a.eval (.tmp 42) = .pointer (some ⟨sb, k, none⟩) := hd 5 42 (by kernel_rfl) hgb
                have cz2 : W.cell? ⟨sb, k, none⟩ = some (.int .i64 (x : Int)) := ((bcell hS).1 _ _ lz).trans CZ.out
                have lz2 := lt_of_cell cz2
                clear hk hd hj
                refine pay_guard (j := 1) (b := false) (d := 38) rfl rfl hg ?_
                exact on_value (.int .i64 (x : Int)) (by generalize a.eval = ρ at *; simp [go_sem, p1, cz2]) (fun _ => rfl) (anyW _ _) hS
            · intro L a W hL hj hS hk hd
              cases hgb : bd with
              | true =>
                have hg : a.eval (.tmp 38) = .bool true := (hd 1 38 (by kernel_rfl)).trans (by rw [hgb])
                exact pay_skip (b := false) rfl rfl hg (by decide) ⟨fun h => (by first | cases h | (rw [hgb] at h; cases h)), anyW _ _, hS⟩
              | false =>
                have hg : a.eval (.tmp 38) = .bool false := (hd 1 38 (by kernel_rfl)).trans (by rw [hgb])
                have p1 : a.eval (.tmp 39) = .slice la Lp.length lc := hd 2 39 (by kernel_rfl) hgb
                have p2 : a.eval (.tmp 43) = .int .i64 (x : Int) := hd 6 43 (by kernel_rfl) hgb
                clear hk hd hj
                refine pay_guard (j := 1) (b := false) (d := 38) rfl rfl hg ?_
                have hF : a.eval (.func 16) = .func (.func 16) #[] #[] := rfl
                refine on_call 16 #[.slice la Lp.length lc, .int .i64 (x : Int)] (by generalize a.eval = ρ at *; simp [go_sem, hF, p1, p2]) ((HH.out W hS).mono ?_)
                rintro e w' ⟨rfl, hw⟩
                obtain rfl := hw.symm
                exact ⟨_, rfl, fun _ => rfl, anyW _ _, hS⟩
            · intro L a W hL hj hS hk hd
              have hC : a.eval (.const (.bool true)) = .bool true := rfl
              cases hgb : bd with
              | true =>
                have p1 : a.eval (.tmp 38) = .bool true := (hd 1 38 (by kernel_rfl)).trans (by rw [hgb])
                clear hk hd hj
                refine pay_plain rfl ?_
                exact on_value (.bool true) (by generalize a.eval = ρ at *; simp [go_sem, p1, hC]) (by show _ = _; first | rfl | (rw [hgb]; rfl)) (anyW _ _) hS
              | false =>
                have p1 : a.eval (.tmp 38) = .bool false := (hd 1 38 (by kernel_rfl)).trans (by rw [hgb])
                have p2 : a.eval (.tmp 44) = .bool b1 := hd 7 44 (by kernel_rfl) hgb
                clear hk hd hj
                refine pay_plain rfl ?_
                exact on_value (.bool b1) (by generalize a.eval = ρ at *; simp [go_sem, p1, p2]) (by show _ = _; first | rfl | (rw [hgb]; rfl)) (anyW _ _) hS
            · intro L a W hL hj hS hk hd
              obtain ⟨z, hz0⟩ : ∃ z, (bd || b1) = z := ⟨_, rfl⟩
              have p : a.eval (.tmp 45) = .bool z := (hd 8 45 (by kernel_rfl)).trans (by rw [hz0])
              clear hk hd hj
              refine pay_plain rfl ?_
              exact on_value (.bool z) (by generalize a.eval = ρ at *; simp [go_sem, p]) (by show _ = _; rw [hz0]) (anyW _ _) hS
            · intro L a W hL hj hS hk hd
              have p : a.eval (.tmp 2) = .pointer (some ⟨w.heap.size, 0, none⟩) := hk 2 (un_none (by kernel_rfl))
              cases hgb : (bd || b1) with
              | true =>
                have hg : a.eval (.tmp 46) = .bool true := (hd 9 46 (by kernel_rfl)).trans (by rw [hgb])
                exact pay_skip (b := false) rfl rfl hg (by decide) ⟨fun h => (by first | cases h | (rw [hgb] at h; cases h)), anyW _ _, hS⟩
              | false =>
                have hg : a.eval (.tmp 46) = .bool false := (hd 9 46 (by kernel_rfl)).trans (by rw [hgb])
                have hgw := HGR.out.below hS
                have c0 : W.cell? ⟨w.heap.size, 0, none⟩ = some (.slice ra rs.length rc) := hgw.cell (o := 0) rfl
                have c1 : W.cell? ⟨w.heap.size, 1, none⟩ = some (.slice na ns.length nc) := hgw.cell (o := 1) rfl
                have lw := hgw.lt
                clear hgw
                clear hk hd hj
                refine pay_guard (j := 9) (b := false) (d := 46) rfl rfl hg ?_
                exact on_value (.agg #[.slice ra rs.length rc, .slice na ns.length nc]) (by generalize a.eval = ρ at *; simp [go_sem, p, c0, c1]) (fun _ => rfl) (anyW _ _) hS
            · intro L a W hL hj hS hk hd
              have p : a.eval (.tmp 7) = .slice (some ⟨sb, 0, none⟩) sn.length sc := hk 7 (un_none (by kernel_rfl))
              cases hgb : (bd || b1) with
              | true =>
                have hg : a.eval (.tmp 46) = .bool true := (hd 9 46 (by kernel_rfl)).trans (by rw [hgb])
                exact pay_skip (b := false) rfl rfl hg (by decide) ⟨fun h => (by first | cases h | (rw [hgb] at h; cases h)), anyW _ _, hS⟩
              | false =>
                have hg : a.eval (.tmp 46) = .bool false := (hd 9 46 (by kernel_rfl)).trans (by rw [hgb])
                clear hk hd hj
                refine pay_guard (j := 9) (b := false) (d := 46) rfl rfl hg ?_
                exact on_value (.slice (some ⟨sb, 0, none⟩) sn.length sc) (by generalize a.eval = ρ at *; simp [go_sem, p]) (fun _ => rfl) (anyW _ _) hS
            · intro L a W hL hj hS hk hd
              have p : a.eval (.tmp 9) = .int .i64 (k : Int) := hk 9 (un_none (by kernel_rfl))
              cases hgb : (bd || b1) with
              | true =>
                have hg : a.eval (.tmp 46) = .bool true := (hd 9 46 (by kernel_rfl)).trans (by rw [hgb])
                exact pay_skip (b := false) rfl rfl hg (by decide) ⟨fun h => (by first | cases h | (rw [hgb] at h; cases h)), anyW _ _, hS⟩
              | false =>
                have hg : a.eval (.tmp 46) = .bool false := (hd 9 46 (by kernel_rfl)).trans (by rw [hgb])
                clear hk hd hj
                refine pay_guard (j := 9) (b := false) (d := 46) rfl rfl hg ?_
                exact on_value (.int .i64 (k : Int)) (by generalize a.eval = ρ at *; simp [go_sem, p]) (fun _ => rfl) (anyW _ _) hS
            · intro L a W hL hj hS hk hd
              cases hgb : (bd || b1) with
              | true =>
                have hg : a.eval (.tmp 46) = .bool true := (hd 9 46 (by kernel_rfl)).trans (by rw [hgb])
                exact pay_skip (b := false) rfl rfl hg (by decide) ⟨fun h => (by first | cases h | (rw [hgb] at h; cases h)), anyW _ _, hS⟩
              | false =>
                have hg : a.eval (.tmp 46) = .bool false := (hd 9 46 (by kernel_rfl)).trans (by rw [hgb])
                have p1 : a.eval (.tmp 48) = .slice (some ⟨sb, 0, none⟩) sn.length sc := hd 11 48 (by kernel_rfl) hgb
                have p2 : a.eval (.tmp 49) = .int .i64 (k : Int) := hd 12 49 (by kernel_rfl) hgb
                clear hk hd hj
                refine pay_guard (j := 9) (b := false) (d := 46) rfl rfl hg ?_
                exact on_value (.pointer (some ⟨sb, k, none⟩)) (by generalize a.eval = ρ at *; simp [go_sem, p1, p2, k1]) (fun _ => rfl) (anyW _ _) hS
            · intro L a W hL hj hS hk hd
              cases hgb : (bd || b1) with
              | true =>
                have hg : a.eval (.tmp 46) = .bool true := (hd 9 46 (by kernel_rfl)).trans (by rw [hgb])
                exact pay_skip (b := false) rfl rfl hg (by decide) ⟨fun h => (by first | cases h | (rw [hgb] at h; cases h)), anyW _ _, hS⟩
              | false =>
                have hg : a.eval (.tmp 46) = .bool false := (hd 9 46 (by kernel_rfl)).trans (by rw [hgb])
                have p1 : a.eval (.tmp 50) = .pointer (some ⟨sb, k, none⟩) := hd 13 50 (by kernel_rfl) hgb
                have cz2 : W.cell? ⟨sb, k, none⟩ = some (.int .i64 (x : Int)) := ((bcell hS).1 _ _ lz).trans CZ.out
                have lz2 := lt_of_cell cz2
                clear hk hd hj
                refine pay_guard (j := 9) (b := false) (d := 46) rfl rfl hg ?_
                exact on_value (.int .i64 (x : Int)) (by generalize a.eval = ρ at *; simp [go_sem, p1, cz2]) (fun _ => rfl) (anyW _ _) hS
            · intro L a W hL hj hS hk hd
              cases hgb : (bd || b1) with
              | true =>
                have hg : a.eval (.tmp 46) = .bool true := (hd 9 46 (by kernel_rfl)).trans (by rw [hgb])
                exact pay_skip (b := false) rfl rfl hg (by decide) ⟨fun h => (by first | cases h | (rw [hgb] at h; cases h)), anyW _ _, hS⟩
              | false =>
                have hg : a.eval (.tmp 46) = .bool false := (hd 9 46 (by kernel_rfl)).trans (by rw [hgb])
                have p1 : a.eval (.tmp 47) = .agg #[.slice ra rs.length rc, .slice na ns.length nc] := hd 10 47 (by kernel_rfl) hgb
                have p2 : a.eval (.tmp 51) = .int .i64 (x : Int) := hd 14 51 (by kernel_rfl) hgb
                clear hk hd hj
                refine pay_guard (j := 9) (b := false) (d := 46) rfl rfl hg ?_
                have hF : a.eval (.func 17) = .func (.func 17) #[] #[] := rfl
                refine on_call 17 #[.agg #[.slice ra rs.length rc, .slice na ns.length nc], .int .i64 (x : Int)] (by generalize a.eval = ρ at *; simp [go_sem, hF, p1, p2]) ((HR2.out W hS).mono ?_)
                rintro e w' ⟨rfl, hb⟩
                exact ⟨_, rfl, fun _ => rfl, anyW _ _, hS.trans (hb.mono hS.size)⟩
            · intro L a W hL hj hS hk hd
              have hC : a.eval (.const (.bool true)) = .bool true := rfl
              cases hgb : (bd || b1) with
              | true =>
                have p1 : a.eval (.tmp 46) = .bool true := (hd 9 46 (by kernel_rfl)).trans (by rw [hgb])
                clear hk hd hj
                refine pay_plain rfl ?_
                exact on_value (.bool true) (by generalize a.eval = ρ at *; simp [go_sem, p1, hC]) (by show _ = _; rw [← Bool.or_assoc, hgb]; rfl) (anyW _ _) hS
              | false =>
                have p1 : a.eval (.tmp 46) = .bool false := (hd 9 46 (by kernel_rfl)).trans (by rw [hgb])
                have p2 : a.eval (.tmp 52) = .bool b2 := hd 15 52 (by kernel_rfl) hgb
                clear hk hd hj
                refine pay_plain rfl ?_
                exact on_value (.bool b2) (by generalize a.eval = ρ at *; simp [go_sem, p1, p2]) (by show _ = _; rw [← Bool.or_assoc, hgb]; rfl) (anyW _ _) hS
            · intro L a W hL hj hS hk hd
              obtain ⟨z, hz0⟩ : ∃ z, (bd || (b1 || b2)) = z := ⟨_, rfl⟩
              have p : a.eval (.tmp 53) = .bool z := (hd 16 53 (by kernel_rfl)).trans (by rw [hz0])
              clear hk hd hj
              refine pay_plain rfl ?_
              exact on_value (.bool z) (by generalize a.eval = ρ at *; simp [go_sem, p]) (by show _ = _; rw [hz0]) (anyW _ _) hS
          case done =>
            intro vals w3 hv hS
            obtain ⟨-, -, hS⟩ := hS
            have e5 : vals 17 = .bool (bd || (b1 || b2)) := hv 17 (by simp)
            have HS3 := Lib.hid hS
            simp only [fill, if_true, Act.put, List.setIfInBounds_toArray, List.set_cons_zero, List.set_cons_succ, Nat.zero_add, Nat.reduceAdd]
            rw [e5]
            clear hv e5 hS
            go_wp2_with fail
            go_meet
            case rel => exact ⟨rfl, HS3.out⟩
        case rest =>
        obtain ⟨rfl, hbc⟩ := hcut
        obtain ⟨w9, rfl⟩ : ∃ w9, w9 = wc := ⟨_, rfl⟩
        have hrow := ownsRow_grown HO.out hbc
        obtain ⟨sb2, e2, -, hc, -⟩ := own_open' hrow (by omega)
        cases e2
        have cz := hc k _ (natI_at HX.out)
        have lz := lt_of_cell cz
        have hgc := HGR.out.below hbc
        have d0 : w9.cell? ⟨w.heap.size, 0, none⟩ = some (.slice ra rs.length rc) := hgc.cell (o := 0) rfl; have d1 : w9.cell? ⟨w.heap.size, 1, none⟩ = some (.slice na ns.length nc) := hgc.cell (o := 1) rfl; have lg := hgc.lt
        have HROW := Lib.hid hrow
        have HBC := Lib.hid (HB.out.trans (hbc.mono hz))
        have hzc := Nat.le_trans hz hbc.size
        have HC2 := Lib.hid (HCN.out w9.drew (below_drewN (m := 1) hbc))
        have HHC : Hid (w9.drew.heap.size = w9.heap.size) := Lib.hid rfl
        rw [HHC.out] at HC2
        clear hrow hc hbc hgc HO HB HCN HH HR2 HGR HHC CZ
        go_upto_region 11 with fail
        go_cut [10] from 31 to 79 (fun v wx => ∃ a c, v = .slice a q.length c ∧ wx.ownsRow w9.heap.size 3 1 (.slice a q.length c) q.length (intsV q) ∧ Below w9.heap.size w9 wx)
        case first =>
          go_region_with (go_at_call 14; (with_reducible refine HC2.out.mono ?_); rintro e w6 ⟨a6, c6, rfl, ho, hb⟩; have HO6 := Lib.hid ho; have HB6 := Lib.hid ((show Below w9.heap.size w9 w9.drew from (Below.refl _ _).drew).trans hb); clear ho hb)
          all_goals go_wp2_with fail
          all_goals
            go_meet
            case rel => exact ⟨_, _, rfl, HO6.out, HB6.out⟩
        case rest =>
        obtain ⟨a6, c6, rfl, ho6, hb6⟩ := hcut
        have hap : (Value.slice a6 q.length c6).ownBlock = none ∨ (Value.slice a6 q.length c6).ownBlock ≠ (Value.slice (some ⟨sb, 0, none⟩) sn.length sc).ownBlock := by
          cases hv : (Value.slice a6 q.length c6).ownBlock with
          | none => left; rfl
          | some g' =>
            right
            have h1 := (ho6.lt g' hv).1
            intro e
            have h2 := (HROW.out.lt g' e.symm).2
            omega
        have HS6 := Lib.hid (show SnS need ns.length [I] B w9.heap.size (.slice a6 q.length c6) q sn k 0 (.slice (some ⟨sb, 0, none⟩) sn.length sc) w5 wc from ⟨HBC.out.trans (hb6.mono hzc), Nat.le_trans hzc hb6.size, ownsRow_grown HROW.out hb6, ho6, hap, HSE.out⟩)
        clear ho6 hb6 hap cz lz d0 d1 lg HROW HBC HC2
        go_wp2_with fail
        obtain ⟨BL, hBL⟩ : ∃ BL, w9.heap.size = BL := ⟨_, rfl⟩
        rw [hBL] at HS6
        clear hBL
        go_loopw [7, 11] (fun s c wx => ∃ (m : Nat) (sm : List Nat), m ≤ q.length ∧ c = .int .i64 (m : Int) ∧ SnS need ns.length [I] B BL (.slice a6 q.length c6) q sm k m s w5 wx ∧ sn.length ≤ sm.length ∧ ∀ t, t < sn.length → sm[t]? = sn[t]?) (fun _ c _ => q.length - (intOf c).toNat)
        case atStart => exact ⟨0, sn, Nat.zero_le _, rfl, HS6.out, Nat.le_refl _, fun t _ => rfl⟩
        case round =>
          clear HS6
          obtain ⟨m, sm, hm, rfl, hS, hsm, hpre⟩ := hrel
          have HPRE := Lib.hid hpre
          obtain ⟨ta, tc, rfl⟩ := own_slice' hS.sr
          have hsl2 := hS.se.len
          rw [List.length_singleton] at hsl2
          have hx2 : sm[k]? = some x := by rw [hpre k hlt]; exact HX.out
          clear hpre
          by_cases hmq : m < q.length
          · have m1 : (m : Int) < (q.length : Int) := by omega
            obtain ⟨z, hzz⟩ : ∃ z, q[m]? = some z := ⟨_, List.getElem?_eq_getElem hmq⟩
            obtain ⟨j, rfl, hj, hwj⟩ := HR3.out m z hzz
            obtain ⟨lb, e1, -, hlc, -⟩ := own_open' hS.lr (by omega)
            cases e1
            have cl := hlc m (.int .i64 (j : Int)) (by unfold intsV; rw [List.getElem?_map, hzz]; rfl)
            have ll := lt_of_cell cl
            have his : IntsAt wr (.slice ta sm.length tc) (natI sm) := IntsAt.of_own (base := B) (by rw [natI_len]; exact hS.sr)
            have hzz2 := hS.z
            have HS := Lib.hid hS
            have HX2 := Lib.hid hx2
            have HWJ := Lib.hid hwj
            have HIS := Lib.hid his
            clear hS hx2 hwj his hlc hzz
            by_cases hmem : j ∈ sm
            · have HH := Lib.hid (has_int _ (natI sm) (j : Int) true wr (by rw [natI_len]; omega) HIS.out (decide_eq_true (natI_mem.2 hmem)))
              have HM := Lib.hid hmem
              clear hmem
              go_wp2_with (go_at_call 16; (with_reducible refine HH.out.mono ?_); rintro e w7 ⟨rfl, hw⟩; obtain rfl := hw.symm; clear hw)
              go_roundw
              case rel => exact ⟨m + 1, sm, by omega, by go_num, HS.out.same HNI.out HX2.out HWJ.out HM.out, hsm, HPRE.out⟩
              case measure => simp [intOf]; omega
            · have HH := Lib.hid (has_int _ (natI sm) (j : Int) false wr (by rw [natI_len]; omega) HIS.out (decide_eq_false (fun h => hmem (natI_mem.1 h))))
              have HM := Lib.hid hmem
              clear hmem
              go_wp2_with (first
                | (go_at_call 16; (with_reducible refine HH.out.mono ?_); rintro e w7 ⟨rfl, hw⟩; obtain rfl := hw.symm; clear hw)
                | (at_builtin; (refine wpList_append_own_at _ rfl _ _ 30 rfl B 3 ii _ 1 8 Try.underlying30 hii hz0 hz1 hz2 rfl (by decide) _ sm.length _ rfl (ownsRow_grown HS.out.sr (one_new _ _)) ⟨_, 0, none⟩ 1 1 [.int .i64 (j : Int)] rfl rfl (Bl.news (Bl.new _ 3 _)) (by simp [Value.oneCell']) (by unfold maxLen; omega) (by omega) (by have := HS.out.z; simp; omega) ?_); intro v8 w8 hown' hgrow _ hat; have HO8 := Lib.hid hown'; have HG8 := Lib.hid hgrow; have HT8 := Lib.hid hat; clear hown' hgrow hat))
              go_roundw
              case rel => exact ⟨m + 1, sm ++ [j], by omega, by go_num, HS.out.more HNI.out HX2.out HWJ.out HM.out (one_new _ _) HO8.out HG8.out HT8.out, by rw [List.length_append]; omega, fun t ht => by rw [List.getElem?_append_left (by omega)]; exact HPRE.out t ht⟩
              case measure => simp [intOf]; omega
          · obtain rfl : m = q.length := by omega
            have m1 : ¬ (q.length : Int) < (q.length : Int) := by omega
            have HS := Lib.hid hS
            have HX2 := Lib.hid hx2
            clear hS hx2
            go_wp2
            go_roundg (1 + ns.length - (k + 1))
            case measure => omega
            case rel =>
              refine ⟨k + 1, sm, _, by omega, by first | rfl | go_num | omega, rfl, rfl, HS.out.sr, HS.out.se.step HX2.out (by omega), HS.out.lo, HS.out.z, HBD.out.trans ⟨fun ⟨t, y, h1, h2, h3⟩ => ⟨t, y, h1, by rw [HPRE.out t (by omega)]; exact h2, h3⟩, fun ⟨t, y, h1, h2, h3⟩ => ⟨t, y, h1, by rw [HPRE.out t (by omega)] at h2; exact h2, h3⟩⟩⟩
      · obtain rfl : k = sn.length := by omega
        have k1 : ¬ (sn.length : Int) < (sn.length : Int) := by omega
        have HRES : Hid (bI = !bd) := Lib.hid (by
          rw [Bool.eq_iff_iff, HWI.out, Bool.not_eq_true', ← Bool.not_eq_true, hbd]
          have hov : ∀ y, y ∈ sn ↔ y = I ∨ RchG need I y := fun y => (hse.over (Nat.le_refl _) y).trans from_one
          constructor
          · rintro h ⟨t, y, h1, h2, h3⟩
            obtain ⟨a, b⟩ := h y ((hov y).1 (List.mem_of_getElem? h2))
            rcases h3 with h3 | h3
            · rw [a] at h3; cases h3
            · exact b h3
          · intro h y hy
            obtain ⟨t, ht, e⟩ := List.mem_iff_getElem.1 ((hov y).2 hy)
            refine ⟨?_, fun hr => h ⟨t, y, ht, by rw [List.getElem?_eq_getElem ht, e], .inr hr⟩⟩
            cases hl : loop y with
            | false => rfl
            | true => exact absurd ⟨t, y, ht, by rw [List.getElem?_eq_getElem ht, e], .inl hl⟩ h)
        have HBW := Lib.hid hbw
        have HGR := Lib.hid hgr
        clear ho hse hb hbd hgr hbw hl5
        go_wp2_with (go_at_call 15; (with_reducible refine (HOf.out _ HBW.out).mono ?_); rintro e w7 ⟨rfl, hm, hb⟩; obtain ⟨ob, oo, e1, ox⟩ := hm.cell HBI.out; cases e1; rw [Nat.zero_add] at ox; have lo := lt_of_cell ox; have HW7 := Lib.hid (bl_on HBW.out hb); have HG7 := Lib.hid (HGR.out.below hb); have d0 : w7.cell? ⟨w.heap.size, 0, none⟩ = some (.slice ra rs.length rc) := HG7.out.cell (o := 0) rfl; have d1 : w7.cell? ⟨w.heap.size, 1, none⟩ = some (.slice na ns.length nc) := HG7.out.cell (o := 1) rfl; have lg := HG7.out.lt; clear hb hm)
        go_ret
        refine ⟨ret_bool ?_, HW7.out⟩
        rw [HRES.out]
        cases bd <;> rfl
end Go.Proofs.Ytnfjbjmdempafaa
