/- The walk of the law BuildInverse. -/
import Derived.Test.YtnebdnonkefloaaBuildLawAgain
namespace Go.Proofs.Ytnebdnonkefloaa
open Go.RowKit
theorem below_of4' {A B C D : Prop} {n0 : Nat} {w W : World} (h : A ∧ B ∧ C ∧ D ∧ Below n0 w W) : Below n0 w W := h.2.2.2.2
theorem s4b {a b c d : Nat} {u0 u1 u2 u3 : Value} {o0 o1 o2 o3 n0 : Nat} {w W W' : World} (h : W.cell? ⟨a, o0, none⟩ = some u0 ∧ W.cell? ⟨b, o1, none⟩ = some u1 ∧ W.cell? ⟨c, o2, none⟩ = some u2 ∧ W.cell? ⟨d, o3, none⟩ = some u3 ∧ Below n0 w W) (hb : Below W.heap.size W W') (hn : n0 = w.heap.size) :
    W'.cell? ⟨a, o0, none⟩ = some u0 ∧ W'.cell? ⟨b, o1, none⟩ = some u1 ∧ W'.cell? ⟨c, o2, none⟩ = some u2 ∧ W'.cell? ⟨d, o3, none⟩ = some u3 ∧ Below n0 w W' := by
  obtain ⟨h0, h1, h2, h3, h4⟩ := h
  exact ⟨by rw [(bcell hb).1 _ _ (lt_of_cell h0)]; exact h0, by rw [(bcell hb).1 _ _ (lt_of_cell h1)]; exact h1, by rw [(bcell hb).1 _ _ (lt_of_cell h2)]; exact h2, by rw [(bcell hb).1 _ _ (lt_of_cell h3)]; exact h3, below_trans' h4 hn hb⟩
set_option maxHeartbeats 8000000 in
set_option maxRecDepth 100000 in
theorem lawInverse_any (hA : BuildAwake) (rv nv : Value) (rs : List PR) (ns : List PN) (w : World) (hR : RulesIn w rv rs) (hN : NodesAt w nv ns) :
    Calls Try.prog 4 #[.agg #[rv, nv]] w fun e w' => e = .returned (.bool true) ∧ Below w.heap.size w w' := by
  obtain ⟨na, nc, rfl⟩ := hN.slice
  have hR' := hR
  obtain ⟨-, ra, rc, rfl, -⟩ := hR'
  unfold BuildAwake at hA
  have HA := Lib.hid hA
  have HR := Lib.hid hR
  have HN := Lib.hid hN
  have HS := Lib.hid (fun (W : World) (hW : Below w.heap.size w W) => rsmall_any (.slice ra rs.length rc) (.slice na ns.length nc) rs ns W (hR.kept hW (Nat.le_refl _)) (hN.kept hW (Nat.le_refl _)))
  cases hf : (fewB rs ns && okB (chkL rs ns)) with
  | false =>
    rw [hf] at HS
    clear hA hR hN hf
    go_enter Try.func4, Try.ntmps4
    go_wp2_with (first
      | (go_at_call 8; (with_reducible refine (HA.out _).mono ?_); rintro e w2 ⟨rfl, hb⟩; first | (have HW2 := Lib.hid (HW.out.trans (hb.mono HW.out.size)); clear hb) | (have HW := Lib.hid ((one_new w (.cells #[.slice ra rs.length rc, .slice na ns.length nc] 36)).trans (hb.mono (one_new w _).size)); have hx := (Bl.new w 36 #[.slice ra rs.length rc, .slice na ns.length nc]).below hb; have b0 := hx.cell (o := 0) rfl; have b1 := hx.cell (o := 1) rfl; clear hb hx))
      | (go_at_call 14; (with_reducible refine (HS.out _ HW.out).mono ?_); rintro e w3 ⟨rfl, hb3⟩; replace HW := Lib.hid (HW.out.trans (hb3.mono HW.out.size)); clear hb3))
    go_ret
    exact ⟨rfl, HW2.out⟩
  | true =>
    rw [hf] at HS
    rw [Bool.and_eq_true] at hf
    obtain ⟨f1, f2, f3, f4⟩ := fewB_yes hf.1
    obtain ⟨-, -, -, -, -, hord, -⟩ := chkL_ok (okB_is hf.2)
    have hism := items_small hord
    have hil : (itemsR rs ns).length = rs.length := itemsR_len rs ns
    have hsum : sumI (itemsR rs ns) ≤ 1000000 := by
      have := sumI_le (b := 300) (fun q hq => Nat.le_trans (hism q hq) f4)
      rw [hil] at this
      have h3 : rs.length * 300 ≤ 30 * 300 := Nat.mul_le_mul_right _ f3
      omega
    have hinv := ofL_inverse hord
    have hnmR : ∀ q, q ∈ itemsR rs ns → q.name.size ≤ 2000000 := fun q hq => by
      obtain ⟨r, hr, rfl⟩ := List.mem_map.1 hq
      have := f1 r hr
      show r.name.size ≤ 2000000
      omega
    have HORD := Lib.hid hord
    have HSM := Lib.hid (fun q hq => Nat.le_trans (hism q hq) f4)
    have HNM := Lib.hid (fun r hr => Nat.le_trans (f1 r hr) (show 100 ≤ 2000000 by decide))
    have HNQ := Lib.hid hnmR
    have HK := Lib.hid f2
    obtain ⟨L, hLL⟩ : ∃ L, itemsR rs ns = L := ⟨_, rfl⟩
    have HLL := Lib.hid hLL
    rw [hLL] at hil hsum hinv HSM HNQ
    have HI := Lib.hid hinv
    have HSUM := Lib.hid hsum
    have HY : Hid (∀ {w w' : World} {e : Ending}, OfIs (some (rs, ns)) w e w' → ∃ ra rc na nc, e = .returned (.tuple #[.agg #[.slice ra rs.length rc, .slice na ns.length nc], .bool true]) ∧ RulesIn w' (.slice ra rs.length rc) rs ∧ NodesAt w' (.slice na ns.length nc) ns ∧ Below w.heap.size w w') := Lib.hid (fun h => OfYes.at h (by unfold maxLen; omega) (by unfold maxLen; omega) (fun n hn => by have := f2 n hn; unfold maxLen; omega))
    have hLb : L.length ≤ 30 := by omega
    clear hA hR hN hf f1 f2 hord hism hinv hnmR hLL hsum hil
    go_enter Try.func4, Try.ntmps4
    go_wp2_with (first
      | (go_at_call 8; (with_reducible refine (HA.out _).mono ?_); rintro e w2 ⟨rfl, hb⟩; have HW := Lib.hid ((one_new w (.cells #[.slice ra rs.length rc, .slice na ns.length nc] 36)).trans (hb.mono (one_new w _).size)); have hx := (Bl.new w 36 #[.slice ra rs.length rc, .slice na ns.length nc]).below hb; have b0 := hx.cell (o := 0) rfl; have b1 := hx.cell (o := 1) rfl; have HX := Lib.hid hx; clear hb hx)
      | (go_at_call 14; (with_reducible refine (HS.out _ HW.out).mono ?_); rintro e w3 ⟨rfl, hb3⟩; have HW3 := Lib.hid (HW.out.trans (hb3.mono HW.out.size)); have hx3 := HX.out.below hb3; have c0 := hx3.cell (o := 0) rfl; have c1 := hx3.cell (o := 1) rfl; have HX3 := Lib.hid hx3; clear hb3 hx3)
      | (go_at_call 15; have hia := items_any _ _ rs ns _ (HR.out.kept HW3.out (Nat.le_refl _)) (HN.out.kept HW3.out (Nat.le_refl _)) (by omega) (by omega) HNM.out HORD.out; rw [HLL.out] at hia; (with_reducible refine hia.mono ?_); clear hia; intro e w4 hh; obtain ⟨ta, tc, rfl, hq4, hb4⟩ := Bck hh (by unfold maxLen; omega) (fun q hq => by have := HSM.out q hq; unfold maxLen; omega); have HQ4 := Lib.hid hq4; have HX4 := Lib.hid (HX3.out.below hb4); have HW4 := Lib.hid (HW3.out.trans (hb4.mono HW3.out.size)); clear hh hq4 hb4)
      | (go_at_call 10; have hof := bof_any _ L _ HQ4.out (by omega) HNQ.out HSUM.out; rw [HI.out] at hof; (with_reducible refine hof.mono ?_); clear hof; intro e w5 hh; obtain ⟨pa, pc, ma, mc, rfl, hg1, hg2, hb5⟩ := HY.out hh; have HG1 := Lib.hid hg1; have HG2 := Lib.hid hg2; have HQ5 := Lib.hid (HQ4.out.kept hb5 (Nat.le_refl _)); have HX5 := Lib.hid (HX4.out.below hb5); have HW5 := Lib.hid (HW4.out.trans (hb5.mono HW4.out.size)); clear hh hg1 hg2 hb5))
    obtain ⟨Wx, hWx⟩ : ∃ Wx, w5.alloc (.cells #[.slice pa rs.length pc, .slice ma ns.length mc] 36) = Wx := ⟨_, rfl⟩
    have hbx : Below w5.heap.size w5 Wx := by rw [← hWx]; exact one_new _ _
    have hy : Bl Wx w5.heap.size 36 #[.slice pa rs.length pc, .slice ma ns.length mc] := by rw [← hWx]; exact Bl.new _ _ _
    rw [hWx]
    have hxx := HX5.out.below hbx
    obtain ⟨n5, hn5⟩ : ∃ n5, n5 = Wx.heap.size := ⟨_, rfl⟩
    have hS0 : Wx.cell? ⟨w.heap.size, 0, none⟩ = some (.slice ra rs.length rc) ∧ Wx.cell? ⟨w.heap.size, 1, none⟩ = some (.slice na ns.length nc) ∧ Wx.cell? ⟨w5.heap.size, 0, none⟩ = some (.slice pa rs.length pc) ∧ Wx.cell? ⟨w5.heap.size, 1, none⟩ = some (.slice ma ns.length mc) ∧ Below n5 Wx Wx := ⟨hxx.cell rfl, hxx.cell rfl, hy.cell rfl, hy.cell rfl, Below.refl _ _⟩
    have HWx := Lib.hid (HW5.out.trans (hbx.mono HW5.out.size))
    have HQx := Lib.hid (HQ5.out.kept hbx (Nat.le_refl _))
    have HG1x := Lib.hid (HG1.out.kept hbx (Nat.le_refl _))
    have HG2x := Lib.hid (HG2.out.kept hbx (Nat.le_refl _))
    have HRx := Lib.hid (HR.out.kept HWx.out (Nat.le_refl _))
    have HNx := Lib.hid (HN.out.kept HWx.out (Nat.le_refl _))
    have hle : Wx.heap.size ≤ n5 := by omega
    clear hWx hbx hy hxx
    go_region_held3 (fun W => W.cell? ⟨w.heap.size, 0, none⟩ = some (.slice ra rs.length rc) ∧ W.cell? ⟨w.heap.size, 1, none⟩ = some (.slice na ns.length nc) ∧ W.cell? ⟨w5.heap.size, 0, none⟩ = some (.slice pa rs.length pc) ∧ W.cell? ⟨w5.heap.size, 1, none⟩ = some (.slice ma ns.length mc) ∧ Below n5 Wx W)
      (first | exact hS | exact hS0 | (refine s4b ?_ (below_drew1 _) hn5; assumption))
      (first
        | (go_at_call 17; (with_reducible refine (back_any _ L _ (by omega) (fun q hq => by have := HSM.out q hq; omega) (HQx.out.kept (below_of4' (by assumption)) hle)).mono ?_); intro e w7 hh; obtain ⟨sa, sc, rfl, hq7, hb7⟩ := Bck hh (by unfold maxLen; omega) (fun q hq => by have := HSM.out q hq; unfold maxLen; omega); have HQ7 := Lib.hid hq7; have hS := s4b (by assumption) hb7 hn5; have HB7 := Lib.hid hb7; clear hh hq7 hb7)
        | (go_at_call 18; have hri := rItems_any (.slice ra rs.length rc) (.slice na ns.length nc) rs ns w7 (HRx.out.kept (below_of4' (by assumption)) hle) (HNx.out.kept (below_of4' (by assumption)) hle) (by omega) (by omega) HORD.out; rw [HLL.out] at hri; (with_reducible refine hri.mono ?_); clear hri; intro e w8 hh; obtain ⟨ua, uc, rfl, hq8, hb8⟩ := Bck hh (by unfold maxLen; omega) (fun q hq => by have := HSM.out q hq; unfold maxLen; omega); have HQ8 := Lib.hid hq8; have HQ78 := Lib.hid (HQ7.out.kept hb8 (Nat.le_refl _)); have hS := s4b (by assumption) hb8 hn5; clear hh hq8 hb8)
        | (go_at_call 16; have hsa := same6_any _ _ L L w8 (by omega) (fun q hq => by have := HSM.out q hq; omega) HQ78.out HQ8.out; rw [decide_eq_true rfl] at hsa; (with_reducible refine hsa.mono ?_); clear hsa; rintro e w9 ⟨rfl, hb9⟩; have hS := s4b (by assumption) hb9 hn5; clear hb9)
        | (go_at_call 13; have hra := rsame_any _ _ _ _ rs rs ns ns w9 (HG1x.out.kept (below_of4' (by assumption)) hle) (HG2x.out.kept (below_of4' (by assumption)) hle) (HRx.out.kept (below_of4' (by assumption)) hle) (HNx.out.kept (below_of4' (by assumption)) hle); rw [decide_eq_true ⟨rfl, rfl⟩] at hra; (with_reducible refine hra.mono ?_); clear hra; rintro e w10 ⟨rfl, hb10⟩; have hS := s4b (by assumption) hb10 hn5; have HB10 := Lib.hid (below_of4' hS); clear hb10))
    go_wp2
    go_ret
    exact ⟨rfl, HWx.out.trans ((hn5 ▸ HB10.out).mono HWx.out.size)⟩
end Go.Proofs.Ytnebdnonkefloaa
