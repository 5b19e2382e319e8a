/- flow.yield: the facts that the table yields for one node. -/
import Derived.Deep.RegionWith
import Derived.Test.YtocklhehfdilmaaPkFlowCho
import Derived.Test.YtocklhehfdilmaaPkFlowSing
import Derived.Test.YtocklhehfdilmaaPkGramMade
namespace Go.Proofs.Ytocklhehfdilmaa
open Go.RowKit
theorem three_new (w : World) (o o' o'' : Obj) : Below w.heap.size w (((w.alloc o).alloc o').alloc o'') := bl_new (two_new w o o')
theorem zeroS_is (n : PN) : zeroS n = z4 n.s0 n.s1 n.s2 n.s3 := by
  unfold zeroS z4
  rw [Bool.eq_iff_iff]
  simp
/-- What the table asks of a node. -/
structure NodeOk (n : PN) : Prop where
  lo : 0 ≤ n.op
  hi : n.op ≤ 9
  one : 5 ≤ n.op → ∃ k, n.kids = [k]
theorem nodeF_5 {rs : List PR} {n : PN} {l : List Fc} {k : Int} (h : 5 ≤ n.op) (hk : n.kids = [k]) : nodeF rs n l = singF n.op (atF l k) := by
  unfold nodeF
  rw [if_neg (by omega), if_neg (by omega), if_neg (by omega), if_neg (by omega), if_neg (by omega), hk]; rfl
set_option maxHeartbeats 8000000 in
set_option maxRecDepth 100000 in
theorem fyield_any (rv nv v : Value) (rs : List PR) (ns : List PN) (l : List Fc) (i : Nat) (n : PN) (w : World) (hR : RulesIn w rv rs) (hN : NodesAt w nv ns) (hF : FactsAt w v l) (hn : ns[i]? = some n) (hO : NodeOk n) :
    Calls Try.prog 27 #[.agg #[rv, nv], .int .i64 (i : Int), v] w fun e w' => e = .returned (factV (nodeF rs n l)) ∧ Below w.heap.size w w' := by
  obtain ⟨-, na, nc, rfl, hna⟩ := id hN
  have hil := (List.getElem?_eq_some_iff.1 hn).1
  rcases hna with h0 | ⟨nb, no, rfl, hca⟩
  · rw [h0] at hil; exact absurd hil (Nat.not_lt_zero _)
  obtain ⟨kv, c0, c1, c2, c3, c4, c5, c6, hk, hkl⟩ := hca i n hn
  have lr := lt_of_cell c0
  have k1 : (i : Int) < (ns.length : Int) := by omega
  obtain ⟨ka, kc, rfl, -⟩ := id hk
  obtain ⟨x0, x1, x5⟩ := hO
  by_cases e0 : n.op = 0
  · rw [e0] at c0
    have hv : nodeF rs n l = ⟨true, false, false⟩ := by unfold nodeF; rw [if_pos e0]
    rw [hv]
    obtain ⟨-, ra, rc, rfl, -⟩ := id hR
    clear hR hN hF hca hk x0 x1 x5 hv
    go_enter Try.func27, Try.ntmps27
    go_wp2
    exact bodyPost_ret (v := factV ⟨true, false, false⟩) (by simp [results, Try.results27, go_sem, factV]) rfl ⟨rfl, three_new _ _ _ _⟩
  by_cases e1 : n.op = 1
  · rw [e1] at c0
    have hv : nodeF rs n l = ⟨false, !zeroS n, true⟩ := by unfold nodeF; rw [if_neg e0, if_pos e1]
    rw [hv]
    have HS := sne (zeroS_is n).symm
    generalize zeroS n = z at *
    obtain ⟨-, ra, rc, rfl, -⟩ := id hR
    clear hR hN hF hca hk x0 x1 x5 hv
    go_enter Try.func27, Try.ntmps27
    go_wp2_with (with_reducible refine gwpList_agg BinOp.neq 50 _ _ _ rfl rfl _ _ rfl rfl ggt_set _ (HS.out _) ?_)
    exact bodyPost_ret (v := factV ⟨false, !z, true⟩) (by simp [results, Try.results27, go_sem, factV]) rfl ⟨rfl, three_new _ _ _ _⟩
  by_cases e2 : n.op = 2
  · rw [e2] at c0
    have hv : nodeF rs n l = atF l (rootF rs n.rule) := by unfold nodeF; rw [if_neg e0, if_neg e1, if_pos e2]
    rw [hv]
    have HR := Lib.hid (fun (W : World) (hb : Below w.heap.size w W) => froot_any rv (.slice (some ⟨nb, no, none⟩) ns.length nc) rs n.rule W (hR.kept hb (Nat.le_refl _)))
    have HF := Lib.hid (fun (W : World) (hb : Below w.heap.size w W) => fat_any v l (rootF rs n.rule) W (hF.kept hb (Nat.le_refl _)))
    generalize atF l (rootF rs n.rule) = f at *
    generalize rootF rs n.rule = r at *
    obtain ⟨-, ra, rc, rfl, -⟩ := id hR
    unfold factV at HF
    clear hR hN hF hca hk x0 x1 x5 hv
    go_enter Try.func27, Try.ntmps27
    go_wp2_with (first
      | (go_at_call 29; (with_reducible refine (HR.out _ (three_new _ _ _ _)).mono ?_); rintro e w4 ⟨rfl, hb⟩; have HB := Lib.hid (bl_on (three_new w _ _ _) hb); have b1 := (Bl.past (Bl.new' (w := w.alloc _) (B := w.heap.size + 1) (cs := #[.bool false, .bool false, .bool false]) (t := 36) (by simp))).below hb; have B1 := Lib.hid b1; clear hb b1)
      | (go_at_call 28; (with_reducible refine (HF.out _ HB.out).mono ?_); rintro e w5 ⟨rfl, hb⟩; have HB2 := Lib.hid (bl_on HB.out hb); have b1 := B1.out.below hb; have a0 := b1.c0; have a1 := b1.c1; have a2 := b1.c2; have af := b1.free; have D0 := Lib.hid b1; clear hb b1))
    have d := ((D0.out.p0 (.bool f.nul)).p1 (.bool f.eat)).p2 (.bool f.fai)
    have k0 := d.c0
    have k1 := d.c1
    have k2 := d.c2
    exact bodyPost_ret (v := factV f) (by simp [results, Try.results27, go_sem, factV, k0, k1, k2]) rfl ⟨rfl, below_p3 HB2.out (Nat.le_succ _) _ _ _⟩
  by_cases e3 : n.op = 3
  · rw [e3] at c0
    have hv : nodeF rs n l = seqF (n.kids.map (atF l)) := by unfold nodeF; rw [if_neg e0, if_neg e1, if_neg e2, if_pos e3]
    rw [hv]
    have HF := Lib.hid (fun (W : World) (hb : Below w.heap.size w W) => fseq_any _ v n.kids l W (hk.kept hb (Nat.le_refl _)) hkl (hF.kept hb (Nat.le_refl _)))
    generalize seqF (n.kids.map (atF l)) = f at *
    obtain ⟨-, ra, rc, rfl, -⟩ := id hR
    unfold factV at HF
    clear hR hN hF hca hk x0 x1 x5 hv
    go_enter Try.func27, Try.ntmps27
    go_wp2_with (go_at_call 35; (with_reducible refine (HF.out _ (three_new _ _ _ _)).mono ?_); rintro e w4 ⟨rfl, hb⟩; have HB2 := Lib.hid (bl_on (three_new w _ _ _) hb); have b1 := (Bl.past (Bl.new' (w := w.alloc _) (B := w.heap.size + 1) (cs := #[.bool false, .bool false, .bool false]) (t := 36) (by simp))).below hb; have a0 := b1.c0; have a1 := b1.c1; have a2 := b1.c2; have af := b1.free; have D0 := Lib.hid b1; clear hb b1)
    have d := ((D0.out.p0 (.bool f.nul)).p1 (.bool f.eat)).p2 (.bool f.fai)
    have k0 := d.c0
    have k1 := d.c1
    have k2 := d.c2
    exact bodyPost_ret (v := factV f) (by simp [results, Try.results27, go_sem, factV, k0, k1, k2]) rfl ⟨rfl, below_p3 HB2.out (Nat.le_succ _) _ _ _⟩
  by_cases e4 : n.op = 4
  · rw [e4] at c0
    have hv : nodeF rs n l = choF (n.kids.map (atF l)) := by unfold nodeF; rw [if_neg e0, if_neg e1, if_neg e2, if_neg e3, if_pos e4]
    rw [hv]
    have HF := Lib.hid (fun (W : World) (hb : Below w.heap.size w W) => fcho_any _ v n.kids l W (hk.kept hb (Nat.le_refl _)) hkl (hF.kept hb (Nat.le_refl _)))
    generalize choF (n.kids.map (atF l)) = f at *
    obtain ⟨-, ra, rc, rfl, -⟩ := id hR
    unfold factV at HF
    clear hR hN hF hca hk x0 x1 x5 hv
    go_enter Try.func27, Try.ntmps27
    go_wp2_with (go_at_call 36; (with_reducible refine (HF.out _ (three_new _ _ _ _)).mono ?_); rintro e w4 ⟨rfl, hb⟩; have HB2 := Lib.hid (bl_on (three_new w _ _ _) hb); have b1 := (Bl.past (Bl.new' (w := w.alloc _) (B := w.heap.size + 1) (cs := #[.bool false, .bool false, .bool false]) (t := 36) (by simp))).below hb; have a0 := b1.c0; have a1 := b1.c1; have a2 := b1.c2; have af := b1.free; have D0 := Lib.hid b1; clear hb b1)
    have d := ((D0.out.p0 (.bool f.nul)).p1 (.bool f.eat)).p2 (.bool f.fai)
    have k0 := d.c0
    have k1 := d.c1
    have k2 := d.c2
    exact bodyPost_ret (v := factV f) (by simp [results, Try.results27, go_sem, factV, k0, k1, k2]) rfl ⟨rfl, below_p3 HB2.out (Nat.le_succ _) _ _ _⟩
  have h5 : 5 ≤ n.op := by omega
  obtain ⟨x, hx⟩ := x5 h5
  rw [nodeF_5 h5 hx]
  have HF := Lib.hid (fun (W : World) (hb : Below w.heap.size w W) => fat_any v l x W (hF.kept hb (Nat.le_refl _)))
  have HG := Lib.hid (fun (W : World) => fsing_any n.op (atF l x) W h5 x1)
  obtain ⟨ka', kc', e, hki⟩ := hk
  injection e with e6 e7 e8
  subst e6 e8
  rw [hx] at hki
  rcases hki with h | ⟨kb, ko, rfl, hkc⟩
  · cases h
  have kx := hkc 0 x rfl
  rw [Nat.add_zero] at kx
  have lk := lt_of_cell kx
  rw [hx] at c1
  generalize atF l x = f at *
  generalize hfg : singF n.op f = g at *
  obtain ⟨-, ra, rc, rfl, -⟩ := id hR
  have q0 : (n.op == 0) = false := ibeq_no e0
  have q1 : (n.op == 1) = false := ibeq_no e1
  have q2 : (n.op == 2) = false := ibeq_no e2
  have q3 : (n.op == 3) = false := ibeq_no e3
  have q4 : (n.op == 4) = false := ibeq_no e4
  unfold factV at HF HG
  clear hR hN hF hca hkc x0 x1 x5 e0 e1 e2 e3 e4 h5 hkl hfg hx
  generalize n.op = op at *
  go_enter Try.func27, Try.ntmps27
  go_wp2_with (fail)
  generalize hW : World.alloc (World.alloc _ _) _ = W
  have d0 : Bl W (w.heap.size + 1) 36 #[.bool false, .bool false, .bool false] := by rw [← hW]; exact Bl.past (Bl.new' (by simp))
  have d1 : Bl W (w.heap.size + 1 + 1) 53 #[.int .i64 op, .slice (some ⟨kb, ko, none⟩) 1 kc, .int .i64 n.rule, .int .u64 n.s0, .int .u64 n.s1, .int .u64 n.s2, .int .u64 n.s3] := by rw [← hW]; exact Bl.new' (by simp)
  have dB : Below w.heap.size w W := by rw [← hW]; exact three_new _ _ _ _
  have p0 : W.cell? ⟨w.heap.size + 1 + 1, 0, none⟩ = some (.int .i64 op) := d1.cell (o := 0) rfl
  have p1 : W.cell? ⟨w.heap.size + 1 + 1, 1, none⟩ = some (.slice (some ⟨kb, ko, none⟩) 1 kc) := d1.cell (o := 1) rfl
  have px : W.cell? ⟨kb, ko, none⟩ = some (.int .i64 x) := by rw [(bcell dB).1 _ _ lk]; exact kx
  have l1 := d1.lt
  have l0 := d0.lt
  have D0 := Lib.hid d0
  have D1 := Lib.hid d1
  have DB := Lib.hid dB
  clear hW d0 d1 dB c0 c1 c2 c3 c4 c5 c6 kx lr
  go_region_with (first
    | (go_at_call 28; (with_reducible refine (HF.out _ (Below.drew DB.out)).mono ?_); rintro e w4 ⟨rfl, hb⟩; have HB := Lib.hid (bl_on (Below.drew DB.out) hb); have b0 := D0.out.drew.below hb; have b1 := D1.out.drew.below hb; have t0 : w4.cell? ⟨w.heap.size + 1 + 1, 0, none⟩ = some (.int .i64 op) := b1.cell (o := 0) rfl; have B0 := Lib.hid b0; clear hb b0 b1)
    | (go_at_call 37; (with_reducible refine (HG.out _).mono ?_); rintro e w5 ⟨rfl, hb⟩; have HB2 := Lib.hid (bl_on HB.out hb); have b0 := B0.out.below hb; have a0 := b0.c0; have a1 := b0.c1; have a2 := b0.c2; have af := b0.free; have E0 := Lib.hid b0; clear hb b0))
  all_goals go_wp2
  all_goals
    have d := ((E0.out.p0 (.bool g.nul)).p1 (.bool g.eat)).p2 (.bool g.fai)
    have k0 := d.c0
    have k1 := d.c1
    have k2 := d.c2
    exact bodyPost_ret (v := factV g) (by simp [results, Try.results27, go_sem, factV, k0, k1, k2]) rfl ⟨rfl, below_p3 HB2.out (Nat.le_succ _) _ _ _⟩
end Go.Proofs.Ytocklhehfdilmaa
