/- The reference's Node: all kinds but sequences and choices. -/
import Derived.Test.YtnfjbjmdempafaaPxFS
namespace Go.Proofs.Ytnfjbjmdempafaa
open Go.RowKit
/-- What the reference's Node asks of a node: its kids and its rule's root have facts. -/
structure NodeIn (rs : List PR) (L : Nat) (n : PN) : Prop where
  ok : NodeOk n
  kid : ∀ k, k ∈ n.kids → 0 ≤ k ∧ k < (L : Int)
  root : n.op = 2 → ∃ (r : Nat) (x : PR), n.rule = (r : Int) ∧ rs[r]? = some x ∧ 0 ≤ x.root ∧ x.root < (L : Int)
theorem four_new (w : World) (o o' o'' o3 : Obj) : Below w.heap.size w ((((w.alloc o).alloc o').alloc o'').alloc o3) := bl_new (three_new w o o' o'')
set_option maxHeartbeats 8000000 in
set_option maxRecDepth 100000 in
theorem rnode_0 (rv nv v : Value) (rs : List PR) (ns : List PN) (l : List Fc) (i : Nat) (n : PN) (w : World) (hR : RulesIn w rv rs) (hN : NodesAt w nv ns) (hn : ns[i]? = some n) (eo : n.op = 0) :
    Calls Try.prog 41 #[.agg #[rv, nv], .int .i64 (i : Int), v] w fun e w' => e = .returned (factV (nodeF rs n l)) ∧ Below w.heap.size w w' := by
  obtain ⟨-, na, nc, rfl, hna⟩ := id hN
  have hil := (List.getElem?_eq_some_iff.1 hn).1
  rcases hna with h0 | ⟨nb, no, rfl, hca⟩
  · rw [h0] at hil; exact absurd hil (Nat.not_lt_zero _)
  obtain ⟨kv, c0, c1, c2, c3, c4, c5, c6, hk, hkl⟩ := hca i n hn
  have lr := lt_of_cell c0
  have k1 : (i : Int) < (ns.length : Int) := by omega
  obtain ⟨ka, kc, rfl, hki⟩ := id hk
  rw [eo] at c0
  have hv : nodeF rs n l = ⟨true, false, false⟩ := by unfold nodeF; rw [if_pos eo]
  rw [hv]
  obtain ⟨-, ra, rc, rfl, -⟩ := id hR
  clear hR hN hca hk hki hv hn eo
  go_enter Try.func41, Try.ntmps41
  go_upto_region 3 with (fail)
  generalize hW : World.alloc (World.alloc (World.alloc (World.alloc _ _) _) _) _ = W
  have dB : Below w.heap.size w W := by rw [← hW]; exact four_new _ _ _ _ _
  have dG : Bl W w.heap.size 25 #[.slice ra rs.length rc, .slice (some ⟨nb, no, none⟩) ns.length nc] := by rw [← hW]; exact Bl.past (Bl.past (Bl.past (Bl.new w _ _)))
  have dR : Bl W (w.heap.size + 1) 37 #[.bool false, .bool false, .bool false] := by rw [← hW]; exact Bl.past (Bl.past (Bl.new' (by simp)))
  have dN : Bl W (w.heap.size + 1 + 1) 35 #[.int .i64 0, .slice ka n.kids.length kc, .int .i64 n.rule, .int .u64 n.s0, .int .u64 n.s1, .int .u64 n.s2, .int .u64 n.s3] := by rw [← hW]; exact Bl.past (Bl.new' (by simp))
  have dO : Bl W (w.heap.size + 1 + 1 + 1) 37 #[.bool false, .bool false, .bool false] := by rw [← hW]; exact Bl.new' (by simp)
  have lO := dO.lt
  have n0 : W.cell? ⟨w.heap.size + 1 + 1, 0, none⟩ = some (.int .i64 0) := dN.cell (o := 0) rfl
  have n1 : W.cell? ⟨w.heap.size + 1 + 1, 1, none⟩ = some (.slice ka n.kids.length kc) := dN.cell (o := 1) rfl
  have n2 : W.cell? ⟨w.heap.size + 1 + 1, 2, none⟩ = some (.int .i64 n.rule) := dN.cell (o := 2) rfl
  have DB := Lib.hid dB
  have DR := Lib.hid dR
  have DO := Lib.hid dO
  have g0 : W.cell? ⟨w.heap.size, 0, none⟩ = some (.slice ra rs.length rc) := dG.cell (o := 0) rfl
  have o0 := dO.c0
  have o1 := dO.c1
  have o2 := dO.c2
  have oz := dO.free
  have q0 := dR.c0
  have q1 := dR.c1
  have q2 := dR.c2
  have qz := dR.free
  clear hW dB dG dR dN dO n1 n2 c0 c1 c2 c3 c4 c5 c6
  go_wp2
  have d := (((DR.out.off (c := w.heap.size + 1 + 1 + 1) (o := 0) (v := .bool true) (Nat.ne_of_lt (by omega))).p0 (.bool true)).p1 (.bool false)).p2 (.bool false)
  have r0 := d.c0
  have r1 := d.c1
  have r2 := d.c2
  exact bodyPost_ret (v := factV ⟨true, false, false⟩) (by simp [results, Try.results41, go_sem, factV, r0, r1, r2]) rfl ⟨rfl, below_p3 (bl_put DB.out (by omega)) (Nat.le_succ _) _ _ _⟩
set_option maxHeartbeats 8000000 in
set_option maxRecDepth 100000 in
theorem rnode_1 (rv nv v : Value) (rs : List PR) (ns : List PN) (l : List Fc) (i : Nat) (n : PN) (w : World) (hR : RulesIn w rv rs) (hN : NodesAt w nv ns) (hn : ns[i]? = some n) (eo : n.op = 1) :
    Calls Try.prog 41 #[.agg #[rv, nv], .int .i64 (i : Int), v] w fun e w' => e = .returned (factV (nodeF rs n l)) ∧ Below w.heap.size w w' := by
  obtain ⟨-, na, nc, rfl, hna⟩ := id hN
  have hil := (List.getElem?_eq_some_iff.1 hn).1
  rcases hna with h0 | ⟨nb, no, rfl, hca⟩
  · rw [h0] at hil; exact absurd hil (Nat.not_lt_zero _)
  obtain ⟨kv, c0, c1, c2, c3, c4, c5, c6, hk, hkl⟩ := hca i n hn
  have lr := lt_of_cell c0
  have k1 : (i : Int) < (ns.length : Int) := by omega
  obtain ⟨ka, kc, rfl, hki⟩ := id hk
  rw [eo] at c0
  have hv : nodeF rs n l = ⟨false, !zeroS n, true⟩ := by unfold nodeF; rw [if_neg (by omega), if_pos eo]
  rw [hv]
  have HS := sne (zeroS_is n).symm
  generalize zeroS n = z at *
  obtain ⟨-, ra, rc, rfl, -⟩ := id hR
  clear hR hN hca hk hki hv hn eo
  go_enter Try.func41, Try.ntmps41
  go_upto_region 3 with (fail)
  generalize hW : World.alloc (World.alloc (World.alloc (World.alloc _ _) _) _) _ = W
  have dB : Below w.heap.size w W := by rw [← hW]; exact four_new _ _ _ _ _
  have dG : Bl W w.heap.size 25 #[.slice ra rs.length rc, .slice (some ⟨nb, no, none⟩) ns.length nc] := by rw [← hW]; exact Bl.past (Bl.past (Bl.past (Bl.new w _ _)))
  have dR : Bl W (w.heap.size + 1) 37 #[.bool false, .bool false, .bool false] := by rw [← hW]; exact Bl.past (Bl.past (Bl.new' (by simp)))
  have dN : Bl W (w.heap.size + 1 + 1) 35 #[.int .i64 1, .slice ka n.kids.length kc, .int .i64 n.rule, .int .u64 n.s0, .int .u64 n.s1, .int .u64 n.s2, .int .u64 n.s3] := by rw [← hW]; exact Bl.past (Bl.new' (by simp))
  have dO : Bl W (w.heap.size + 1 + 1 + 1) 37 #[.bool false, .bool false, .bool false] := by rw [← hW]; exact Bl.new' (by simp)
  have lO := dO.lt
  have n0 : W.cell? ⟨w.heap.size + 1 + 1, 0, none⟩ = some (.int .i64 1) := dN.cell (o := 0) rfl
  have n1 : W.cell? ⟨w.heap.size + 1 + 1, 1, none⟩ = some (.slice ka n.kids.length kc) := dN.cell (o := 1) rfl
  have n2 : W.cell? ⟨w.heap.size + 1 + 1, 2, none⟩ = some (.int .i64 n.rule) := dN.cell (o := 2) rfl
  have DB := Lib.hid dB
  have DR := Lib.hid dR
  have DO := Lib.hid dO
  have g0 : W.cell? ⟨w.heap.size, 0, none⟩ = some (.slice ra rs.length rc) := dG.cell (o := 0) rfl
  have o0 := dO.c0
  have o1 := dO.c1
  have o2 := dO.c2
  have oz := dO.free
  have q0 := dR.c0
  have q1 := dR.c1
  have q2 := dR.c2
  have qz := dR.free
  have n3 : W.cell? ⟨w.heap.size + 1 + 1, 3, none⟩ = some (.int .u64 n.s0) := dN.cell (o := 3) rfl
  have n4 : W.cell? ⟨w.heap.size + 1 + 1, 4, none⟩ = some (.int .u64 n.s1) := dN.cell (o := 4) rfl
  have n5 : W.cell? ⟨w.heap.size + 1 + 1, 5, none⟩ = some (.int .u64 n.s2) := dN.cell (o := 5) rfl
  have n6 : W.cell? ⟨w.heap.size + 1 + 1, 6, none⟩ = some (.int .u64 n.s3) := dN.cell (o := 6) rfl
  clear hW dB dG dR dN dO n1 n2 c0 c1 c2 c3 c4 c5 c6
  go_wp2_with (with_reducible refine gwpList_agg BinOp.neq 33 _ _ _ rfl rfl _ _ rfl rfl ggt_set _ (HS.out _) ?_)
  have d := ((((DR.out.off (c := w.heap.size + 1 + 1 + 1) (o := 1) (v := .bool (!z)) (Nat.ne_of_lt (by omega))).off (c := w.heap.size + 1 + 1 + 1) (o := 2) (v := .bool true) (Nat.ne_of_lt (by omega))).p0 (.bool false)).p1 (.bool (!z))).p2 (.bool true)
  have r0 := d.c0
  have r1 := d.c1
  have r2 := d.c2
  exact bodyPost_ret (v := factV ⟨false, (!z), true⟩) (by simp [results, Try.results41, go_sem, factV, r0, r1, r2]) rfl ⟨rfl, below_p3 (bl_put (bl_put DB.out (by omega)) (by omega)) (Nat.le_succ _) _ _ _⟩
set_option maxHeartbeats 8000000 in
set_option maxRecDepth 100000 in
theorem rnode_2 (rv nv v : Value) (rs : List PR) (ns : List PN) (l : List Fc) (i : Nat) (n : PN) (w : World) (hR : RulesIn w rv rs) (hN : NodesAt w nv ns) (hF : FactsAt w v l) (hn : ns[i]? = some n) (hI : NodeIn rs l.length n) (eo : n.op = 2) :
    Calls Try.prog 41 #[.agg #[rv, nv], .int .i64 (i : Int), v] w fun e w' => e = .returned (factV (nodeF rs n l)) ∧ Below w.heap.size w w' := by
  obtain ⟨-, na, nc, rfl, hna⟩ := id hN
  have hil := (List.getElem?_eq_some_iff.1 hn).1
  rcases hna with h0 | ⟨nb, no, rfl, hca⟩
  · rw [h0] at hil; exact absurd hil (Nat.not_lt_zero _)
  obtain ⟨kv, c0, c1, c2, c3, c4, c5, c6, hk, hkl⟩ := hca i n hn
  have lr := lt_of_cell c0
  have k1 : (i : Int) < (ns.length : Int) := by omega
  obtain ⟨ka, kc, rfl, hki⟩ := id hk
  rw [eo] at c0
  obtain ⟨r, x, hr, hx, x0, x1⟩ := hI.root eo
  have hv : nodeF rs n l = atF l x.root := by unfold nodeF; rw [if_neg (by omega), if_neg (by omega), if_pos eo, hr, rootF_at hx]
  rw [hv]
  have hrl := (List.getElem?_eq_some_iff.1 hx).1
  obtain ⟨-, ra, rc, rfl, hra⟩ := id hR
  rcases hra with h0 | ⟨rb, ro, rfl, hrc⟩
  · rw [h0] at hrl; exact absurd hrl (Nat.not_lt_zero _)
  obtain ⟨r0, r1⟩ := hrc r x hx
  have ll := lt_of_cell r0
  obtain ⟨y, hy⟩ : ∃ y : Nat, x.root = y := ⟨x.root.toNat, by omega⟩
  rw [hy] at r1 x1 ⊢
  rw [hr] at c2
  have rl : (r : Int) < (rs.length : Int) := by omega
  obtain ⟨f, hf⟩ : ∃ f, l[y]? = some f := ⟨_, List.getElem?_eq_getElem (by omega)⟩
  rw [atF_some hf]
  obtain ⟨va, vc, rfl⟩ := hF.slice
  obtain ⟨fb, fo, rfl, f0, f1, f2⟩ := hF.at hf
  have lf := lt_of_cell f0
  obtain ⟨a, b, c⟩ := f
  clear hR hN hF hca hk hki hv hn hI eo hrc hf hx x0
  go_enter Try.func41, Try.ntmps41
  go_upto_region 3 with (fail)
  generalize hW : World.alloc (World.alloc (World.alloc (World.alloc _ _) _) _) _ = W
  have dB : Below w.heap.size w W := by rw [← hW]; exact four_new _ _ _ _ _
  have dG : Bl W w.heap.size 25 #[.slice (some ⟨rb, ro, none⟩) rs.length rc, .slice (some ⟨nb, no, none⟩) ns.length nc] := by rw [← hW]; exact Bl.past (Bl.past (Bl.past (Bl.new w _ _)))
  have dR : Bl W (w.heap.size + 1) 37 #[.bool false, .bool false, .bool false] := by rw [← hW]; exact Bl.past (Bl.past (Bl.new' (by simp)))
  have dN : Bl W (w.heap.size + 1 + 1) 35 #[.int .i64 2, .slice ka n.kids.length kc, .int .i64 (r : Int), .int .u64 n.s0, .int .u64 n.s1, .int .u64 n.s2, .int .u64 n.s3] := by rw [← hW]; exact Bl.past (Bl.new' (by simp))
  have dO : Bl W (w.heap.size + 1 + 1 + 1) 37 #[.bool false, .bool false, .bool false] := by rw [← hW]; exact Bl.new' (by simp)
  have lO := dO.lt
  have n0 : W.cell? ⟨w.heap.size + 1 + 1, 0, none⟩ = some (.int .i64 2) := dN.cell (o := 0) rfl
  have n1 : W.cell? ⟨w.heap.size + 1 + 1, 1, none⟩ = some (.slice ka n.kids.length kc) := dN.cell (o := 1) rfl
  have n2 : W.cell? ⟨w.heap.size + 1 + 1, 2, none⟩ = some (.int .i64 (r : Int)) := dN.cell (o := 2) rfl
  have DB := Lib.hid dB
  have DR := Lib.hid dR
  have DO := Lib.hid dO
  have g0 : W.cell? ⟨w.heap.size, 0, none⟩ = some (.slice (some ⟨rb, ro, none⟩) rs.length rc) := dG.cell (o := 0) rfl
  have o0 := dO.c0
  have o1 := dO.c1
  have o2 := dO.c2
  have oz := dO.free
  have q0 := dR.c0
  have q1 := dR.c1
  have q2 := dR.c2
  have qz := dR.free
  rw [← (bcell dB).1 _ _ lf] at f0 f1 f2
  rw [← (bcell dB).1 _ _ ll] at r1
  clear hW dB dG dR dN dO n1 c0 c1 c2 c3 c4 c5 c6 r0
  go_wp2
  have d := (((((DR.out.off (c := w.heap.size + 1 + 1 + 1) (o := 0) (v := .bool a) (Nat.ne_of_lt (by omega))).off (c := w.heap.size + 1 + 1 + 1) (o := 1) (v := .bool b) (Nat.ne_of_lt (by omega))).off (c := w.heap.size + 1 + 1 + 1) (o := 2) (v := .bool c) (Nat.ne_of_lt (by omega))).p0 (.bool a)).p1 (.bool b)).p2 (.bool c)
  have r0 := d.c0
  have r1 := d.c1
  have r2 := d.c2
  exact bodyPost_ret (v := factV ⟨a, b, c⟩) (by simp [results, Try.results41, go_sem, factV, r0, r1, r2]) rfl ⟨rfl, below_p3 (bl_put (bl_put (bl_put DB.out (by omega)) (by omega)) (by omega)) (Nat.le_succ _) _ _ _⟩
set_option maxHeartbeats 8000000 in
set_option maxRecDepth 100000 in
theorem rnode_5 (rv nv v : Value) (rs : List PR) (ns : List PN) (l : List Fc) (i : Nat) (n : PN) (w : World) (hR : RulesIn w rv rs) (hN : NodesAt w nv ns) (hF : FactsAt w v l) (hn : ns[i]? = some n) (hI : NodeIn rs l.length n) (eo : n.op = 5) :
    Calls Try.prog 41 #[.agg #[rv, nv], .int .i64 (i : Int), v] w fun e w' => e = .returned (factV (nodeF rs n l)) ∧ Below w.heap.size w w' := by
  obtain ⟨-, na, nc, rfl, hna⟩ := id hN
  have hil := (List.getElem?_eq_some_iff.1 hn).1
  rcases hna with h0 | ⟨nb, no, rfl, hca⟩
  · rw [h0] at hil; exact absurd hil (Nat.not_lt_zero _)
  obtain ⟨kv, c0, c1, c2, c3, c4, c5, c6, hk, hkl⟩ := hca i n hn
  have lr := lt_of_cell c0
  have k1 : (i : Int) < (ns.length : Int) := by omega
  obtain ⟨ka, kc, rfl, hki⟩ := id hk
  rw [eo] at c0
  obtain ⟨x, hx⟩ := hI.ok.one (by omega)
  rw [nodeF_5 (by omega) hx, eo]
  obtain ⟨xl, xu⟩ := hI.kid x (by rw [hx]; simp)
  obtain ⟨y, rfl⟩ : ∃ y : Nat, x = y := ⟨x.toNat, by omega⟩
  have hy : y < l.length := by omega
  obtain ⟨f, hf⟩ : ∃ f, l[y]? = some f := ⟨_, List.getElem?_eq_getElem hy⟩
  rw [atF_some hf]
  obtain ⟨va, vc, rfl⟩ := hF.slice
  obtain ⟨fb, fo, rfl, f0, f1, f2⟩ := hF.at hf
  have lf := lt_of_cell f0
  have y1 : (y : Int) < (l.length : Int) := by omega
  rw [hx] at hki c1
  rcases hki with h | ⟨kb, ko, rfl, hkc⟩
  · cases h
  have kx := hkc 0 (y : Int) rfl
  rw [Nat.add_zero] at kx
  have lk := lt_of_cell kx
  obtain ⟨-, ra, rc, rfl, -⟩ := id hR
  obtain ⟨a, b, c⟩ := f
  have HR := Lib.hid (fun W => rok_any ⟨a, b, c⟩ W)
  unfold factV at HR
  clear hR hN hF hca hk hkc hn hf hI hx xl xu eo hkl
  rw [show singF 5 ⟨a, b, c⟩ = ⟨c, b, false⟩ from rfl]
  go_enter Try.func41, Try.ntmps41
  go_upto_region 3 with (fail)
  generalize hW : World.alloc (World.alloc (World.alloc (World.alloc _ _) _) _) _ = W
  have dB : Below w.heap.size w W := by rw [← hW]; exact four_new _ _ _ _ _
  have dG : Bl W w.heap.size 25 #[.slice ra rs.length rc, .slice (some ⟨nb, no, none⟩) ns.length nc] := by rw [← hW]; exact Bl.past (Bl.past (Bl.past (Bl.new w _ _)))
  have dR : Bl W (w.heap.size + 1) 37 #[.bool false, .bool false, .bool false] := by rw [← hW]; exact Bl.past (Bl.past (Bl.new' (by simp)))
  have dN : Bl W (w.heap.size + 1 + 1) 35 #[.int .i64 5, .slice (some ⟨kb, ko, none⟩) 1 kc, .int .i64 n.rule, .int .u64 n.s0, .int .u64 n.s1, .int .u64 n.s2, .int .u64 n.s3] := by rw [← hW]; exact Bl.past (Bl.new' (by simp))
  have dO : Bl W (w.heap.size + 1 + 1 + 1) 37 #[.bool false, .bool false, .bool false] := by rw [← hW]; exact Bl.new' (by simp)
  have lO := dO.lt
  have n0 : W.cell? ⟨w.heap.size + 1 + 1, 0, none⟩ = some (.int .i64 5) := dN.cell (o := 0) rfl
  have n1 : W.cell? ⟨w.heap.size + 1 + 1, 1, none⟩ = some (.slice (some ⟨kb, ko, none⟩) 1 kc) := dN.cell (o := 1) rfl
  have n2 : W.cell? ⟨w.heap.size + 1 + 1, 2, none⟩ = some (.int .i64 n.rule) := dN.cell (o := 2) rfl
  have DB := Lib.hid dB
  have DR := Lib.hid dR
  have DO := Lib.hid dO
  have g0 : W.cell? ⟨w.heap.size, 0, none⟩ = some (.slice ra rs.length rc) := dG.cell (o := 0) rfl
  have o0 := dO.c0
  have o1 := dO.c1
  have o2 := dO.c2
  have oz := dO.free
  have q0 := dR.c0
  have q1 := dR.c1
  have q2 := dR.c2
  have qz := dR.free
  rw [← (bcell dB).1 _ _ lf] at f0 f1 f2
  rw [← (bcell dB).1 _ _ lk] at kx
  clear hW dB dG dR dN dO n2 c0 c1 c2 c3 c4 c5 c6 HR
  go_wp2
  have d := ((((DR.out.off (c := w.heap.size + 1 + 1 + 1) (o := 0) (v := .bool c) (Nat.ne_of_lt (by omega))).off (c := w.heap.size + 1 + 1 + 1) (o := 1) (v := .bool b) (Nat.ne_of_lt (by omega))).p0 (.bool c)).p1 (.bool b)).p2 (.bool false)
  have r0 := d.c0
  have r1 := d.c1
  have r2 := d.c2
  exact bodyPost_ret (v := factV ⟨c, b, false⟩) (by simp [results, Try.results41, go_sem, factV, r0, r1, r2]) rfl ⟨rfl, below_p3 (bl_put (bl_put DB.out (by omega)) (by omega)) (Nat.le_succ _) _ _ _⟩
set_option maxHeartbeats 8000000 in
set_option maxRecDepth 100000 in
theorem rnode_6 (rv nv v : Value) (rs : List PR) (ns : List PN) (l : List Fc) (i : Nat) (n : PN) (w : World) (hR : RulesIn w rv rs) (hN : NodesAt w nv ns) (hF : FactsAt w v l) (hn : ns[i]? = some n) (hI : NodeIn rs l.length n) (eo : n.op = 6) :
    Calls Try.prog 41 #[.agg #[rv, nv], .int .i64 (i : Int), v] w fun e w' => e = .returned (factV (nodeF rs n l)) ∧ Below w.heap.size w w' := by
  obtain ⟨-, na, nc, rfl, hna⟩ := id hN
  have hil := (List.getElem?_eq_some_iff.1 hn).1
  rcases hna with h0 | ⟨nb, no, rfl, hca⟩
  · rw [h0] at hil; exact absurd hil (Nat.not_lt_zero _)
  obtain ⟨kv, c0, c1, c2, c3, c4, c5, c6, hk, hkl⟩ := hca i n hn
  have lr := lt_of_cell c0
  have k1 : (i : Int) < (ns.length : Int) := by omega
  obtain ⟨ka, kc, rfl, hki⟩ := id hk
  rw [eo] at c0
  obtain ⟨x, hx⟩ := hI.ok.one (by omega)
  rw [nodeF_5 (by omega) hx, eo]
  obtain ⟨xl, xu⟩ := hI.kid x (by rw [hx]; simp)
  obtain ⟨y, rfl⟩ : ∃ y : Nat, x = y := ⟨x.toNat, by omega⟩
  have hy : y < l.length := by omega
  obtain ⟨f, hf⟩ : ∃ f, l[y]? = some f := ⟨_, List.getElem?_eq_getElem hy⟩
  rw [atF_some hf]
  obtain ⟨va, vc, rfl⟩ := hF.slice
  obtain ⟨fb, fo, rfl, f0, f1, f2⟩ := hF.at hf
  have lf := lt_of_cell f0
  have y1 : (y : Int) < (l.length : Int) := by omega
  rw [hx] at hki c1
  rcases hki with h | ⟨kb, ko, rfl, hkc⟩
  · cases h
  have kx := hkc 0 (y : Int) rfl
  rw [Nat.add_zero] at kx
  have lk := lt_of_cell kx
  obtain ⟨-, ra, rc, rfl, -⟩ := id hR
  obtain ⟨a, b, c⟩ := f
  have HR := Lib.hid (fun W => rok_any ⟨a, b, c⟩ W)
  unfold factV at HR
  clear hR hN hF hca hk hkc hn hf hI hx xl xu eo hkl
  rw [show singF 6 ⟨a, b, c⟩ = ⟨a && c, b, c⟩ from rfl]
  go_enter Try.func41, Try.ntmps41
  go_upto_region 3 with (fail)
  generalize hW : World.alloc (World.alloc (World.alloc (World.alloc _ _) _) _) _ = W
  have dB : Below w.heap.size w W := by rw [← hW]; exact four_new _ _ _ _ _
  have dG : Bl W w.heap.size 25 #[.slice ra rs.length rc, .slice (some ⟨nb, no, none⟩) ns.length nc] := by rw [← hW]; exact Bl.past (Bl.past (Bl.past (Bl.new w _ _)))
  have dR : Bl W (w.heap.size + 1) 37 #[.bool false, .bool false, .bool false] := by rw [← hW]; exact Bl.past (Bl.past (Bl.new' (by simp)))
  have dN : Bl W (w.heap.size + 1 + 1) 35 #[.int .i64 6, .slice (some ⟨kb, ko, none⟩) 1 kc, .int .i64 n.rule, .int .u64 n.s0, .int .u64 n.s1, .int .u64 n.s2, .int .u64 n.s3] := by rw [← hW]; exact Bl.past (Bl.new' (by simp))
  have dO : Bl W (w.heap.size + 1 + 1 + 1) 37 #[.bool false, .bool false, .bool false] := by rw [← hW]; exact Bl.new' (by simp)
  have lO := dO.lt
  have n0 : W.cell? ⟨w.heap.size + 1 + 1, 0, none⟩ = some (.int .i64 6) := dN.cell (o := 0) rfl
  have n1 : W.cell? ⟨w.heap.size + 1 + 1, 1, none⟩ = some (.slice (some ⟨kb, ko, none⟩) 1 kc) := dN.cell (o := 1) rfl
  have n2 : W.cell? ⟨w.heap.size + 1 + 1, 2, none⟩ = some (.int .i64 n.rule) := dN.cell (o := 2) rfl
  have DB := Lib.hid dB
  have DR := Lib.hid dR
  have DO := Lib.hid dO
  have g0 : W.cell? ⟨w.heap.size, 0, none⟩ = some (.slice ra rs.length rc) := dG.cell (o := 0) rfl
  have o0 := dO.c0
  have o1 := dO.c1
  have o2 := dO.c2
  have oz := dO.free
  have q0 := dR.c0
  have q1 := dR.c1
  have q2 := dR.c2
  have qz := dR.free
  rw [← (bcell dB).1 _ _ lf] at f0 f1 f2
  rw [← (bcell dB).1 _ _ lk] at kx
  clear hW dB dG dR dN dO n2 c0 c1 c2 c3 c4 c5 c6 HR
  cases a with
  | false =>
    go_wp2
    have d := (((((DR.out.off (c := w.heap.size + 1 + 1 + 1) (o := 0) (v := .bool false) (Nat.ne_of_lt (by omega))).off (c := w.heap.size + 1 + 1 + 1) (o := 1) (v := .bool b) (Nat.ne_of_lt (by omega))).off (c := w.heap.size + 1 + 1 + 1) (o := 2) (v := .bool c) (Nat.ne_of_lt (by omega))).p0 (.bool false)).p1 (.bool b)).p2 (.bool c)
    have r0 := d.c0
    have r1 := d.c1
    have r2 := d.c2
    exact bodyPost_ret (v := factV ⟨false, b, c⟩) (by simp [results, Try.results41, go_sem, factV, r0, r1, r2]) rfl ⟨rfl, below_p3 (bl_put (bl_put (bl_put DB.out (by omega)) (by omega)) (by omega)) (Nat.le_succ _) _ _ _⟩
  | true =>
    go_wp2
    have d := (((((DR.out.off (c := w.heap.size + 1 + 1 + 1) (o := 0) (v := .bool c) (Nat.ne_of_lt (by omega))).off (c := w.heap.size + 1 + 1 + 1) (o := 1) (v := .bool b) (Nat.ne_of_lt (by omega))).off (c := w.heap.size + 1 + 1 + 1) (o := 2) (v := .bool c) (Nat.ne_of_lt (by omega))).p0 (.bool c)).p1 (.bool b)).p2 (.bool c)
    have r0 := d.c0
    have r1 := d.c1
    have r2 := d.c2
    exact bodyPost_ret (v := factV ⟨c, b, c⟩) (by simp [results, Try.results41, go_sem, factV, r0, r1, r2]) rfl ⟨rfl, below_p3 (bl_put (bl_put (bl_put DB.out (by omega)) (by omega)) (by omega)) (Nat.le_succ _) _ _ _⟩
set_option maxHeartbeats 8000000 in
set_option maxRecDepth 100000 in
theorem rnode_7 (rv nv v : Value) (rs : List PR) (ns : List PN) (l : List Fc) (i : Nat) (n : PN) (w : World) (hR : RulesIn w rv rs) (hN : NodesAt w nv ns) (hF : FactsAt w v l) (hn : ns[i]? = some n) (hI : NodeIn rs l.length n) (eo : n.op = 7) :
    Calls Try.prog 41 #[.agg #[rv, nv], .int .i64 (i : Int), v] w fun e w' => e = .returned (factV (nodeF rs n l)) ∧ Below w.heap.size w w' := by
  obtain ⟨-, na, nc, rfl, hna⟩ := id hN
  have hil := (List.getElem?_eq_some_iff.1 hn).1
  rcases hna with h0 | ⟨nb, no, rfl, hca⟩
  · rw [h0] at hil; exact absurd hil (Nat.not_lt_zero _)
  obtain ⟨kv, c0, c1, c2, c3, c4, c5, c6, hk, hkl⟩ := hca i n hn
  have lr := lt_of_cell c0
  have k1 : (i : Int) < (ns.length : Int) := by omega
  obtain ⟨ka, kc, rfl, hki⟩ := id hk
  rw [eo] at c0
  obtain ⟨x, hx⟩ := hI.ok.one (by omega)
  rw [nodeF_5 (by omega) hx, eo]
  obtain ⟨xl, xu⟩ := hI.kid x (by rw [hx]; simp)
  obtain ⟨y, rfl⟩ : ∃ y : Nat, x = y := ⟨x.toNat, by omega⟩
  have hy : y < l.length := by omega
  obtain ⟨f, hf⟩ : ∃ f, l[y]? = some f := ⟨_, List.getElem?_eq_getElem hy⟩
  rw [atF_some hf]
  obtain ⟨va, vc, rfl⟩ := hF.slice
  obtain ⟨fb, fo, rfl, f0, f1, f2⟩ := hF.at hf
  have lf := lt_of_cell f0
  have y1 : (y : Int) < (l.length : Int) := by omega
  rw [hx] at hki c1
  rcases hki with h | ⟨kb, ko, rfl, hkc⟩
  · cases h
  have kx := hkc 0 (y : Int) rfl
  rw [Nat.add_zero] at kx
  have lk := lt_of_cell kx
  obtain ⟨-, ra, rc, rfl, -⟩ := id hR
  obtain ⟨a, b, c⟩ := f
  have HR := Lib.hid (fun W => rok_any ⟨a, b, c⟩ W)
  unfold factV at HR
  clear hR hN hF hca hk hkc hn hf hI hx xl xu eo hkl
  rw [show singF 7 ⟨a, b, c⟩ = ⟨a || c, b, false⟩ from rfl]
  go_enter Try.func41, Try.ntmps41
  go_upto_region 3 with (fail)
  generalize hW : World.alloc (World.alloc (World.alloc (World.alloc _ _) _) _) _ = W
  have dB : Below w.heap.size w W := by rw [← hW]; exact four_new _ _ _ _ _
  have dG : Bl W w.heap.size 25 #[.slice ra rs.length rc, .slice (some ⟨nb, no, none⟩) ns.length nc] := by rw [← hW]; exact Bl.past (Bl.past (Bl.past (Bl.new w _ _)))
  have dR : Bl W (w.heap.size + 1) 37 #[.bool false, .bool false, .bool false] := by rw [← hW]; exact Bl.past (Bl.past (Bl.new' (by simp)))
  have dN : Bl W (w.heap.size + 1 + 1) 35 #[.int .i64 7, .slice (some ⟨kb, ko, none⟩) 1 kc, .int .i64 n.rule, .int .u64 n.s0, .int .u64 n.s1, .int .u64 n.s2, .int .u64 n.s3] := by rw [← hW]; exact Bl.past (Bl.new' (by simp))
  have dO : Bl W (w.heap.size + 1 + 1 + 1) 37 #[.bool false, .bool false, .bool false] := by rw [← hW]; exact Bl.new' (by simp)
  have lO := dO.lt
  have n0 : W.cell? ⟨w.heap.size + 1 + 1, 0, none⟩ = some (.int .i64 7) := dN.cell (o := 0) rfl
  have n1 : W.cell? ⟨w.heap.size + 1 + 1, 1, none⟩ = some (.slice (some ⟨kb, ko, none⟩) 1 kc) := dN.cell (o := 1) rfl
  have n2 : W.cell? ⟨w.heap.size + 1 + 1, 2, none⟩ = some (.int .i64 n.rule) := dN.cell (o := 2) rfl
  have DB := Lib.hid dB
  have DR := Lib.hid dR
  have DO := Lib.hid dO
  have g0 : W.cell? ⟨w.heap.size, 0, none⟩ = some (.slice ra rs.length rc) := dG.cell (o := 0) rfl
  have o0 := dO.c0
  have o1 := dO.c1
  have o2 := dO.c2
  have oz := dO.free
  have q0 := dR.c0
  have q1 := dR.c1
  have q2 := dR.c2
  have qz := dR.free
  rw [← (bcell dB).1 _ _ lf] at f0 f1 f2
  rw [← (bcell dB).1 _ _ lk] at kx
  clear hW dB dG dR dN dO n2 c0 c1 c2 c3 c4 c5 c6 HR
  cases a with
  | false =>
    go_wp2
    have d := ((((DR.out.off (c := w.heap.size + 1 + 1 + 1) (o := 0) (v := .bool c) (Nat.ne_of_lt (by omega))).off (c := w.heap.size + 1 + 1 + 1) (o := 1) (v := .bool b) (Nat.ne_of_lt (by omega))).p0 (.bool c)).p1 (.bool b)).p2 (.bool false)
    have r0 := d.c0
    have r1 := d.c1
    have r2 := d.c2
    exact bodyPost_ret (v := factV ⟨c, b, false⟩) (by simp [results, Try.results41, go_sem, factV, r0, r1, r2]) rfl ⟨rfl, below_p3 (bl_put (bl_put DB.out (by omega)) (by omega)) (Nat.le_succ _) _ _ _⟩
  | true =>
    go_wp2
    have d := ((((DR.out.off (c := w.heap.size + 1 + 1 + 1) (o := 0) (v := .bool true) (Nat.ne_of_lt (by omega))).off (c := w.heap.size + 1 + 1 + 1) (o := 1) (v := .bool b) (Nat.ne_of_lt (by omega))).p0 (.bool true)).p1 (.bool b)).p2 (.bool false)
    have r0 := d.c0
    have r1 := d.c1
    have r2 := d.c2
    exact bodyPost_ret (v := factV ⟨true, b, false⟩) (by simp [results, Try.results41, go_sem, factV, r0, r1, r2]) rfl ⟨rfl, below_p3 (bl_put (bl_put DB.out (by omega)) (by omega)) (Nat.le_succ _) _ _ _⟩
set_option maxHeartbeats 8000000 in
set_option maxRecDepth 100000 in
theorem rnode_8 (rv nv v : Value) (rs : List PR) (ns : List PN) (l : List Fc) (i : Nat) (n : PN) (w : World) (hR : RulesIn w rv rs) (hN : NodesAt w nv ns) (hF : FactsAt w v l) (hn : ns[i]? = some n) (hI : NodeIn rs l.length n) (eo : n.op = 8) :
    Calls Try.prog 41 #[.agg #[rv, nv], .int .i64 (i : Int), v] w fun e w' => e = .returned (factV (nodeF rs n l)) ∧ Below w.heap.size w w' := by
  obtain ⟨-, na, nc, rfl, hna⟩ := id hN
  have hil := (List.getElem?_eq_some_iff.1 hn).1
  rcases hna with h0 | ⟨nb, no, rfl, hca⟩
  · rw [h0] at hil; exact absurd hil (Nat.not_lt_zero _)
  obtain ⟨kv, c0, c1, c2, c3, c4, c5, c6, hk, hkl⟩ := hca i n hn
  have lr := lt_of_cell c0
  have k1 : (i : Int) < (ns.length : Int) := by omega
  obtain ⟨ka, kc, rfl, hki⟩ := id hk
  rw [eo] at c0
  obtain ⟨x, hx⟩ := hI.ok.one (by omega)
  rw [nodeF_5 (by omega) hx, eo]
  obtain ⟨xl, xu⟩ := hI.kid x (by rw [hx]; simp)
  obtain ⟨y, rfl⟩ : ∃ y : Nat, x = y := ⟨x.toNat, by omega⟩
  have hy : y < l.length := by omega
  obtain ⟨f, hf⟩ : ∃ f, l[y]? = some f := ⟨_, List.getElem?_eq_getElem hy⟩
  rw [atF_some hf]
  obtain ⟨va, vc, rfl⟩ := hF.slice
  obtain ⟨fb, fo, rfl, f0, f1, f2⟩ := hF.at hf
  have lf := lt_of_cell f0
  have y1 : (y : Int) < (l.length : Int) := by omega
  rw [hx] at hki c1
  rcases hki with h | ⟨kb, ko, rfl, hkc⟩
  · cases h
  have kx := hkc 0 (y : Int) rfl
  rw [Nat.add_zero] at kx
  have lk := lt_of_cell kx
  obtain ⟨-, ra, rc, rfl, -⟩ := id hR
  obtain ⟨a, b, c⟩ := f
  have HR := Lib.hid (fun W => rok_any ⟨a, b, c⟩ W)
  unfold factV at HR
  clear hR hN hF hca hk hkc hn hf hI hx xl xu eo hkl
  rw [show singF 8 ⟨a, b, c⟩ = ⟨(⟨a, b, c⟩ : Fc).ok, false, c⟩ from rfl]
  generalize (⟨a, b, c⟩ : Fc).ok = ok at *
  go_enter Try.func41, Try.ntmps41
  go_upto_region 3 with (fail)
  generalize hW : World.alloc (World.alloc (World.alloc (World.alloc _ _) _) _) _ = W
  have dB : Below w.heap.size w W := by rw [← hW]; exact four_new _ _ _ _ _
  have dG : Bl W w.heap.size 25 #[.slice ra rs.length rc, .slice (some ⟨nb, no, none⟩) ns.length nc] := by rw [← hW]; exact Bl.past (Bl.past (Bl.past (Bl.new w _ _)))
  have dR : Bl W (w.heap.size + 1) 37 #[.bool false, .bool false, .bool false] := by rw [← hW]; exact Bl.past (Bl.past (Bl.new' (by simp)))
  have dN : Bl W (w.heap.size + 1 + 1) 35 #[.int .i64 8, .slice (some ⟨kb, ko, none⟩) 1 kc, .int .i64 n.rule, .int .u64 n.s0, .int .u64 n.s1, .int .u64 n.s2, .int .u64 n.s3] := by rw [← hW]; exact Bl.past (Bl.new' (by simp))
  have dO : Bl W (w.heap.size + 1 + 1 + 1) 37 #[.bool false, .bool false, .bool false] := by rw [← hW]; exact Bl.new' (by simp)
  have lO := dO.lt
  have n0 : W.cell? ⟨w.heap.size + 1 + 1, 0, none⟩ = some (.int .i64 8) := dN.cell (o := 0) rfl
  have n1 : W.cell? ⟨w.heap.size + 1 + 1, 1, none⟩ = some (.slice (some ⟨kb, ko, none⟩) 1 kc) := dN.cell (o := 1) rfl
  have n2 : W.cell? ⟨w.heap.size + 1 + 1, 2, none⟩ = some (.int .i64 n.rule) := dN.cell (o := 2) rfl
  have DB := Lib.hid dB
  have DR := Lib.hid dR
  have DO := Lib.hid dO
  have g1 : True := trivial
  have DN := Lib.hid dN
  have o0 := dO.c0
  have o1 := dO.c1
  have o2 := dO.c2
  have oz := dO.free
  have F0 := Lib.hid f0
  have F1 := Lib.hid f1
  have F2 := Lib.hid f2
  have KX := Lib.hid kx
  rw [← (bcell dB).1 _ _ lf] at f0 f1 f2
  rw [← (bcell dB).1 _ _ lk] at kx
  clear hW dB dG dR dN dO n2 c0 c1 c2 c3 c4 c5 c6
  go_wp2_with (go_at_call 57; (with_reducible refine (HR.out _).mono ?_); rintro e w5 ⟨rfl, hb⟩; have dR5 := DR.out.below hb; have dN5 := DN.out.below hb; have dO5 := DO.out.below hb; have dB5 := bl_on DB.out hb; have m1 : w5.cell? ⟨w.heap.size + 1 + 1, 1, none⟩ = some (.slice (some ⟨kb, ko, none⟩) 1 kc) := dN5.cell (o := 1) rfl; have p0 := dO5.c0; have p1 := dO5.c1; have p2 := dO5.c2; have pz := dO5.free; have q0 := dR5.c0; have q1 := dR5.c1; have q2 := dR5.c2; have qz := dR5.free; have lo5 := dO5.lt; have e0 := (bcell dB5).1 _ (fo + y * 3) lf; have e1 := (bcell dB5).1 _ (fo + y * 3 + 1) lf; have e2 := (bcell dB5).1 _ (fo + y * 3 + 2) lf; have ek := (bcell dB5).1 _ ko lk; rw [F0.out] at e0; rw [F1.out] at e1; rw [F2.out] at e2; rw [KX.out] at ek; have DR5 := Lib.hid dR5; have DB5 := Lib.hid dB5; clear hb dR5 dN5 dO5 dB5)
  have d := ((((DR5.out.off (c := w.heap.size + 1 + 1 + 1) (o := 0) (v := .bool ok) (Nat.ne_of_lt (by omega))).off (c := w.heap.size + 1 + 1 + 1) (o := 2) (v := .bool c) (Nat.ne_of_lt (by omega))).p0 (.bool ok)).p1 (.bool false)).p2 (.bool c)
  have r0 := d.c0
  have r1 := d.c1
  have r2 := d.c2
  exact bodyPost_ret (v := factV ⟨ok, false, c⟩) (by simp [results, Try.results41, go_sem, factV, r0, r1, r2]) rfl ⟨rfl, below_p3 (bl_put (bl_put DB5.out (by omega)) (by omega)) (Nat.le_succ _) _ _ _⟩
set_option maxHeartbeats 8000000 in
set_option maxRecDepth 100000 in
theorem rnode_9 (rv nv v : Value) (rs : List PR) (ns : List PN) (l : List Fc) (i : Nat) (n : PN) (w : World) (hR : RulesIn w rv rs) (hN : NodesAt w nv ns) (hF : FactsAt w v l) (hn : ns[i]? = some n) (hI : NodeIn rs l.length n) (eo : n.op = 9) :
    Calls Try.prog 41 #[.agg #[rv, nv], .int .i64 (i : Int), v] w fun e w' => e = .returned (factV (nodeF rs n l)) ∧ Below w.heap.size w w' := by
  obtain ⟨-, na, nc, rfl, hna⟩ := id hN
  have hil := (List.getElem?_eq_some_iff.1 hn).1
  rcases hna with h0 | ⟨nb, no, rfl, hca⟩
  · rw [h0] at hil; exact absurd hil (Nat.not_lt_zero _)
  obtain ⟨kv, c0, c1, c2, c3, c4, c5, c6, hk, hkl⟩ := hca i n hn
  have lr := lt_of_cell c0
  have k1 : (i : Int) < (ns.length : Int) := by omega
  obtain ⟨ka, kc, rfl, hki⟩ := id hk
  rw [eo] at c0
  obtain ⟨x, hx⟩ := hI.ok.one (by omega)
  rw [nodeF_5 (by omega) hx, eo]
  obtain ⟨xl, xu⟩ := hI.kid x (by rw [hx]; simp)
  obtain ⟨y, rfl⟩ : ∃ y : Nat, x = y := ⟨x.toNat, by omega⟩
  have hy : y < l.length := by omega
  obtain ⟨f, hf⟩ : ∃ f, l[y]? = some f := ⟨_, List.getElem?_eq_getElem hy⟩
  rw [atF_some hf]
  obtain ⟨va, vc, rfl⟩ := hF.slice
  obtain ⟨fb, fo, rfl, f0, f1, f2⟩ := hF.at hf
  have lf := lt_of_cell f0
  have y1 : (y : Int) < (l.length : Int) := by omega
  rw [hx] at hki c1
  rcases hki with h | ⟨kb, ko, rfl, hkc⟩
  · cases h
  have kx := hkc 0 (y : Int) rfl
  rw [Nat.add_zero] at kx
  have lk := lt_of_cell kx
  obtain ⟨-, ra, rc, rfl, -⟩ := id hR
  obtain ⟨a, b, c⟩ := f
  have HR := Lib.hid (fun W => rok_any ⟨a, b, c⟩ W)
  unfold factV at HR
  clear hR hN hF hca hk hkc hn hf hI hx xl xu eo hkl
  rw [show singF 9 ⟨a, b, c⟩ = ⟨c, false, (⟨a, b, c⟩ : Fc).ok⟩ from rfl]
  generalize (⟨a, b, c⟩ : Fc).ok = ok at *
  go_enter Try.func41, Try.ntmps41
  go_upto_region 3 with (fail)
  generalize hW : World.alloc (World.alloc (World.alloc (World.alloc _ _) _) _) _ = W
  have dB : Below w.heap.size w W := by rw [← hW]; exact four_new _ _ _ _ _
  have dG : Bl W w.heap.size 25 #[.slice ra rs.length rc, .slice (some ⟨nb, no, none⟩) ns.length nc] := by rw [← hW]; exact Bl.past (Bl.past (Bl.past (Bl.new w _ _)))
  have dR : Bl W (w.heap.size + 1) 37 #[.bool false, .bool false, .bool false] := by rw [← hW]; exact Bl.past (Bl.past (Bl.new' (by simp)))
  have dN : Bl W (w.heap.size + 1 + 1) 35 #[.int .i64 9, .slice (some ⟨kb, ko, none⟩) 1 kc, .int .i64 n.rule, .int .u64 n.s0, .int .u64 n.s1, .int .u64 n.s2, .int .u64 n.s3] := by rw [← hW]; exact Bl.past (Bl.new' (by simp))
  have dO : Bl W (w.heap.size + 1 + 1 + 1) 37 #[.bool false, .bool false, .bool false] := by rw [← hW]; exact Bl.new' (by simp)
  have lO := dO.lt
  have n0 : W.cell? ⟨w.heap.size + 1 + 1, 0, none⟩ = some (.int .i64 9) := dN.cell (o := 0) rfl
  have n1 : W.cell? ⟨w.heap.size + 1 + 1, 1, none⟩ = some (.slice (some ⟨kb, ko, none⟩) 1 kc) := dN.cell (o := 1) rfl
  have n2 : W.cell? ⟨w.heap.size + 1 + 1, 2, none⟩ = some (.int .i64 n.rule) := dN.cell (o := 2) rfl
  have DB := Lib.hid dB
  have DR := Lib.hid dR
  have DO := Lib.hid dO
  have g1 : True := trivial
  have DN := Lib.hid dN
  have o0 := dO.c0
  have o1 := dO.c1
  have o2 := dO.c2
  have oz := dO.free
  have F0 := Lib.hid f0
  have F1 := Lib.hid f1
  have F2 := Lib.hid f2
  have KX := Lib.hid kx
  rw [← (bcell dB).1 _ _ lf] at f0 f1 f2
  rw [← (bcell dB).1 _ _ lk] at kx
  clear hW dB dG dR dN dO n2 c0 c1 c2 c3 c4 c5 c6
  go_wp2_with (go_at_call 57; (with_reducible refine (HR.out _).mono ?_); rintro e w5 ⟨rfl, hb⟩; have dR5 := (DR.out.off (c := w.heap.size + 1 + 1 + 1) (o := 0) (v := .bool c) (Nat.ne_of_lt (by omega))).below hb; have dN5 := (DN.out.off (c := w.heap.size + 1 + 1 + 1) (o := 0) (v := .bool c) (Nat.ne_of_lt (by omega))).below hb; have dO5 := (DO.out.p0 (.bool c)).below hb; have dB5 := bl_on (bl_put (o := 0) (v := .bool c) DB.out (show w.heap.size ≤ w.heap.size + 1 + 1 + 1 by omega)) hb; have m1 : w5.cell? ⟨w.heap.size + 1 + 1, 1, none⟩ = some (.slice (some ⟨kb, ko, none⟩) 1 kc) := dN5.cell (o := 1) rfl; have p0 := dO5.c0; have p1 := dO5.c1; have p2 := dO5.c2; have pz := dO5.free; have q0 := dR5.c0; have q1 := dR5.c1; have q2 := dR5.c2; have qz := dR5.free; have lo5 := dO5.lt; have e0 := (bcell dB5).1 _ (fo + y * 3) lf; have e1 := (bcell dB5).1 _ (fo + y * 3 + 1) lf; have e2 := (bcell dB5).1 _ (fo + y * 3 + 2) lf; have ek := (bcell dB5).1 _ ko lk; rw [F0.out] at e0; rw [F1.out] at e1; rw [F2.out] at e2; rw [KX.out] at ek; have DR5 := Lib.hid dR5; have DB5 := Lib.hid dB5; clear hb dR5 dN5 dO5 dB5)
  have d := (((DR5.out.off (c := w.heap.size + 1 + 1 + 1) (o := 2) (v := .bool ok) (Nat.ne_of_lt (by omega))).p0 (.bool c)).p1 (.bool false)).p2 (.bool ok)
  have r0 := d.c0
  have r1 := d.c1
  have r2 := d.c2
  exact bodyPost_ret (v := factV ⟨c, false, ok⟩) (by simp [results, Try.results41, go_sem, factV, r0, r1, r2]) rfl ⟨rfl, below_p3 (bl_put DB5.out (by omega)) (Nat.le_succ _) _ _ _⟩
end Go.Proofs.Ytnfjbjmdempafaa
