/- The law MeasureMatchesReference. -/
import Derived.Test.YtklimoepkifnhaaMeasAwake
import Derived.Test.YtklimoepkifnhaaGramTxt
import Derived.Test.YtklimoepkifnhaaGramLaws
import Derived.Laws.StructEq
import Derived.Deep.RegionHeld3
import Derived.Deep.Cut
namespace Go.Proofs.Ytklimoepkifnhaa
open Go.RowKit
theorem und_arr10 : Try.prog.underlying 28 = some (.array 10 3) := by kernel_rfl
theorem info_int7 : ∃ i, Try.prog.info? 3 = some i := Option.isSome_iff_exists.1 (by kernel_rfl)
theorem cells_int7 : Try.prog.cellsOf 3 = 1 := by kernel_rfl
theorem pq0 (a b c d e f g h i j : Value) (w : World) : (Go.part 3 #[a, b, c, d, e, f, g, h, i, j] 0).run Try.prog w = .ok a w := by kernel_rfl
theorem pq1 (a b c d e f g h i j : Value) (w : World) : (Go.part 3 #[a, b, c, d, e, f, g, h, i, j] 1).run Try.prog w = .ok b w := by kernel_rfl
theorem pq2 (a b c d e f g h i j : Value) (w : World) : (Go.part 3 #[a, b, c, d, e, f, g, h, i, j] 2).run Try.prog w = .ok c w := by kernel_rfl
theorem pq3 (a b c d e f g h i j : Value) (w : World) : (Go.part 3 #[a, b, c, d, e, f, g, h, i, j] 3).run Try.prog w = .ok d w := by kernel_rfl
theorem pq4 (a b c d e f g h i j : Value) (w : World) : (Go.part 3 #[a, b, c, d, e, f, g, h, i, j] 4).run Try.prog w = .ok e w := by kernel_rfl
theorem pq5 (a b c d e f g h i j : Value) (w : World) : (Go.part 3 #[a, b, c, d, e, f, g, h, i, j] 5).run Try.prog w = .ok f w := by kernel_rfl
theorem pq6 (a b c d e f g h i j : Value) (w : World) : (Go.part 3 #[a, b, c, d, e, f, g, h, i, j] 6).run Try.prog w = .ok g w := by kernel_rfl
theorem pq7 (a b c d e f g h i j : Value) (w : World) : (Go.part 3 #[a, b, c, d, e, f, g, h, i, j] 7).run Try.prog w = .ok h w := by kernel_rfl
theorem pq8 (a b c d e f g h i j : Value) (w : World) : (Go.part 3 #[a, b, c, d, e, f, g, h, i, j] 8).run Try.prog w = .ok i w := by kernel_rfl
theorem pq9 (a b c d e f g h i j : Value) (w : World) : (Go.part 3 #[a, b, c, d, e, f, g, h, i, j] 9).run Try.prog w = .ok j w := by kernel_rfl
theorem eq_arr10 (a b c d e f g h i j : Int) (w : World) :
    (Op.equalIn 9999 28 (.agg #[.int .i64 a, .int .i64 b, .int .i64 c, .int .i64 d, .int .i64 e, .int .i64 f, .int .i64 g, .int .i64 h, .int .i64 i, .int .i64 j]) (.agg #[.int .i64 a, .int .i64 b, .int .i64 c, .int .i64 d, .int .i64 e, .int .i64 f, .int .i64 g, .int .i64 h, .int .i64 i, .int .i64 j])).run Try.prog w = .ok true w := by
  obtain ⟨ii, hi⟩ := info_int7
  rw [run_equalIn_array w 9998 _ _ und_arr10 hi, show List.range 10 = [0, 1, 2, 3, 4, 5, 6, 7, 8, 9] from rfl]
  have he : ∀ x : Int, (Op.equalIn 9998 3 (.int .i64 x) (.int .i64 x)).run Try.prog w = .ok true w := fun x => by
    have := run_equalIn_int (P := Try.prog) w 9997 3 .i64 .i64 x x Try.underlying3
    rw [this]; simp
  simp [Op.eqItems, cells_int7, pq0, pq1, pq2, pq3, pq4, pq5, pq6, pq7, pq8, pq9, he]
theorem flds_sizes : (Try.prog.fieldsOf 38).toList.map (fun f => (f.name, f.type, f.offset)) = [("Rules", 3, 0), ("Nodes", 3, 1), ("Depth", 3, 2), ("Leaves", 3, 3), ("Ops", 28, 4)] := by kernel_rfl
theorem ps0 (x0 x1 x2 x3 a b c d e f g h i j : Value) (w : World) : (Go.part 3 #[x0, x1, x2, x3, a, b, c, d, e, f, g, h, i, j] 0).run Try.prog w = .ok x0 w := by kernel_rfl
theorem ps1 (x0 x1 x2 x3 a b c d e f g h i j : Value) (w : World) : (Go.part 3 #[x0, x1, x2, x3, a, b, c, d, e, f, g, h, i, j] 1).run Try.prog w = .ok x1 w := by kernel_rfl
theorem ps2 (x0 x1 x2 x3 a b c d e f g h i j : Value) (w : World) : (Go.part 3 #[x0, x1, x2, x3, a, b, c, d, e, f, g, h, i, j] 2).run Try.prog w = .ok x2 w := by kernel_rfl
theorem ps3 (x0 x1 x2 x3 a b c d e f g h i j : Value) (w : World) : (Go.part 3 #[x0, x1, x2, x3, a, b, c, d, e, f, g, h, i, j] 3).run Try.prog w = .ok x3 w := by kernel_rfl
theorem ps4 (x0 x1 x2 x3 a b c d e f g h i j : Value) (w : World) : (Go.part 28 #[x0, x1, x2, x3, a, b, c, d, e, f, g, h, i, j] 4).run Try.prog w = .ok (.agg #[a, b, c, d, e, f, g, h, i, j]) w := by kernel_rfl
theorem eqIn_sizes (x0 x1 x2 x3 a b c d e f g h i j : Int) (w : World) :
    (Op.equalIn 10000 38 (.agg #[.int .i64 x0, .int .i64 x1, .int .i64 x2, .int .i64 x3, .int .i64 a, .int .i64 b, .int .i64 c, .int .i64 d, .int .i64 e, .int .i64 f, .int .i64 g, .int .i64 h, .int .i64 i, .int .i64 j]) (.agg #[.int .i64 x0, .int .i64 x1, .int .i64 x2, .int .i64 x3, .int .i64 a, .int .i64 b, .int .i64 c, .int .i64 d, .int .i64 e, .int .i64 f, .int .i64 g, .int .i64 h, .int .i64 i, .int .i64 j])).run Try.prog w = .ok true w := by
  have he : ∀ x : Int, (Op.equalIn 9999 3 (.int .i64 x) (.int .i64 x)).run Try.prog w = .ok true w := fun x => by
    have := run_equalIn_int (P := Try.prog) w 9998 3 .i64 .i64 x x Try.underlying3
    rw [this]; simp
  have ea := eq_arr10 a b c d e f g h i j w
  rw [run_equalIn_struct w 9999 38 _ _ (by kernel_rfl) (by kernel_rfl)]
  have hf := flds_sizes
  revert hf
  generalize (Try.prog.fieldsOf 38).toList = fs
  intro hf
  have hl : fs.length = 5 := by simpa using congrArg List.length hf
  obtain ⟨f1, f2, f3, f4, f5, rfl⟩ : ∃ f g h i j, fs = [f, g, h, i, j] := by
    match fs, hl with
    | [f, g, h, i, j], _ => exact ⟨f, g, h, i, j, rfl⟩
  simp only [List.map_cons, List.map_nil, List.cons.injEq, Prod.mk.injEq, and_true] at hf
  obtain ⟨⟨n1, t1, o1⟩, ⟨n2, t2, o2⟩, ⟨n3, t3, o3⟩, ⟨n4, t4, o4⟩, n5, t5, o5⟩ := hf
  have d1 : f1.name ≠ "_" := by rw [n1]; decide
  have d2 : f2.name ≠ "_" := by rw [n2]; decide
  have d3 : f3.name ≠ "_" := by rw [n3]; decide
  have d4 : f4.name ≠ "_" := by rw [n4]; decide
  have d5 : f5.name ≠ "_" := by rw [n5]; decide
  simp only [Op.eqFields, d1, d2, d3, d4, d5, ne_eq, not_false_eq_true, if_true, t1, t2, t3, t4, t5, o1, o2, o3, o4, o5, Sem.run_bind, Sem.run_pure, ps0, ps1, ps2, ps3, ps4, Result.andThen_ok, he, ea, Bool.not_true, Bool.false_eq_true, if_false]
theorem eql_sizes (x0 x1 x2 x3 a b c d e f g h i j : Int) (w : World) :
    (binOp .eql 38 (.agg #[.int .i64 x0, .int .i64 x1, .int .i64 x2, .int .i64 x3, .int .i64 a, .int .i64 b, .int .i64 c, .int .i64 d, .int .i64 e, .int .i64 f, .int .i64 g, .int .i64 h, .int .i64 i, .int .i64 j]) (.agg #[.int .i64 x0, .int .i64 x1, .int .i64 x2, .int .i64 x3, .int .i64 a, .int .i64 b, .int .i64 c, .int .i64 d, .int .i64 e, .int .i64 f, .int .i64 g, .int .i64 h, .int .i64 i, .int .i64 j])).run Try.prog w = .ok (.bool true) w := by
  have h : (Op.equal 38 (.agg #[.int .i64 x0, .int .i64 x1, .int .i64 x2, .int .i64 x3, .int .i64 a, .int .i64 b, .int .i64 c, .int .i64 d, .int .i64 e, .int .i64 f, .int .i64 g, .int .i64 h, .int .i64 i, .int .i64 j]) (.agg #[.int .i64 x0, .int .i64 x1, .int .i64 x2, .int .i64 x3, .int .i64 a, .int .i64 b, .int .i64 c, .int .i64 d, .int .i64 e, .int .i64 f, .int .i64 g, .int .i64 h, .int .i64 i, .int .i64 j])).run Try.prog w = _ := eqIn_sizes x0 x1 x2 x3 a b c d e f g h i j w
  simp [binOp, h]
theorem gt_sizes : Try.prog.eqGuardType Try.prog.depth 38 = false := by kernel_rfl
theorem sumR_le (o : Nat → Nat) : ∀ m k, sumR o k ≤ sumR o (k + m)
  | 0, k => Nat.le_refl _
  | m + 1, k => by have := sumR_le o m k; show _ ≤ sumR o (k + m) + o (k + m); omega
theorem kidsN_le (ns : List PN) (k : Nat) : kidsN (ns.take k) ≤ kidsN ns := by
  have h : kidsN ns = kidsN (ns.take k) + kidsN (ns.drop k) := by
    unfold kidsN; rw [← List.sum_append, ← List.map_append, List.take_append_drop]
  omega
theorem kidsN_take {ns : List PN} {k : Nat} {n : PN} (hn : ns[k]? = some n) : kidsN (ns.take (k + 1)) = kidsN (ns.take k) + n.kids.length := by rw [take_snoc' ns k n hn, kidsN_snoc]
theorem sizK {n G S : Nat} {x0 x1 y0 y1 y2 y3 y4 y5 y6 y7 y8 y9 y10 y11 y12 y13 : Value} {w W W' : World} (hn : n ≤ w.heap.size) (hb : Below W.heap.size W W') (h : W.cell? ⟨G, 0, none⟩ = some x0 ∧ W.cell? ⟨G, 1, none⟩ = some x1 ∧ W.cell? ⟨S, 0, none⟩ = some y0 ∧ W.cell? ⟨S, 1, none⟩ = some y1 ∧ W.cell? ⟨S, 2, none⟩ = some y2 ∧ W.cell? ⟨S, 3, none⟩ = some y3 ∧ W.cell? ⟨S, 4, none⟩ = some y4 ∧ W.cell? ⟨S, 5, none⟩ = some y5 ∧ W.cell? ⟨S, 6, none⟩ = some y6 ∧ W.cell? ⟨S, 7, none⟩ = some y7 ∧ W.cell? ⟨S, 8, none⟩ = some y8 ∧ W.cell? ⟨S, 9, none⟩ = some y9 ∧ W.cell? ⟨S, 10, none⟩ = some y10 ∧ W.cell? ⟨S, 11, none⟩ = some y11 ∧ W.cell? ⟨S, 12, none⟩ = some y12 ∧ W.cell? ⟨S, 13, none⟩ = some y13 ∧ Below n w W) :
    W'.cell? ⟨G, 0, none⟩ = some x0 ∧ W'.cell? ⟨G, 1, none⟩ = some x1 ∧ W'.cell? ⟨S, 0, none⟩ = some y0 ∧ W'.cell? ⟨S, 1, none⟩ = some y1 ∧ W'.cell? ⟨S, 2, none⟩ = some y2 ∧ W'.cell? ⟨S, 3, none⟩ = some y3 ∧ W'.cell? ⟨S, 4, none⟩ = some y4 ∧ W'.cell? ⟨S, 5, none⟩ = some y5 ∧ W'.cell? ⟨S, 6, none⟩ = some y6 ∧ W'.cell? ⟨S, 7, none⟩ = some y7 ∧ W'.cell? ⟨S, 8, none⟩ = some y8 ∧ W'.cell? ⟨S, 9, none⟩ = some y9 ∧ W'.cell? ⟨S, 10, none⟩ = some y10 ∧ W'.cell? ⟨S, 11, none⟩ = some y11 ∧ W'.cell? ⟨S, 12, none⟩ = some y12 ∧ W'.cell? ⟨S, 13, none⟩ = some y13 ∧ Below n w W' := by
  obtain ⟨h0, h1, h2, h3, h4, h5, h6, h7, h8, h9, h10, h11, h12, h13, h14, h15, hz⟩ := h
  have hc := (bcell hb).1
  exact ⟨by rw [hc _ _ (lt_of_cell h0)]; exact h0, by rw [hc _ _ (lt_of_cell h1)]; exact h1, by rw [hc _ _ (lt_of_cell h2)]; exact h2, by rw [hc _ _ (lt_of_cell h3)]; exact h3, by rw [hc _ _ (lt_of_cell h4)]; exact h4, by rw [hc _ _ (lt_of_cell h5)]; exact h5, by rw [hc _ _ (lt_of_cell h6)]; exact h6, by rw [hc _ _ (lt_of_cell h7)]; exact h7, by rw [hc _ _ (lt_of_cell h8)]; exact h8, by rw [hc _ _ (lt_of_cell h9)]; exact h9, by rw [hc _ _ (lt_of_cell h10)]; exact h10, by rw [hc _ _ (lt_of_cell h11)]; exact h11, by rw [hc _ _ (lt_of_cell h12)]; exact h12, by rw [hc _ _ (lt_of_cell h13)]; exact h13, by rw [hc _ _ (lt_of_cell h14)]; exact h14, by rw [hc _ _ (lt_of_cell h15)]; exact h15, hz.trans (hb.mono (Nat.le_trans hn hz.size))⟩
set_option maxHeartbeats 8000000 in
set_option maxRecDepth 100000 in
theorem law7_matches (rv nv : Value) (rs : List PR) (ns : List PN) (w : World) (hR : RulesIn w rv rs) (hN : NodesAt w nv ns) :
    Calls Try.prog 3 #[.agg #[rv, nv]] w fun e w' => e = .returned (.bool true) ∧ Below w.heap.size w w' := by
  have HS := Lib.hid (fun (W : World) (hb : Below w.heap.size w W) => rsmall_any rv nv rs ns W (hR.kept hb (Nat.le_refl _)) (hN.kept hb (Nat.le_refl _)))
  cases hsm : (fewB rs ns && okB (chkL rs ns)) with
  | false =>
    rw [hsm] at HS
    obtain ⟨-, ra, rc, rfl, -⟩ := hR
    obtain ⟨-, na, nc, rfl, -⟩ := hN
    clear hsm
    go_enter Try.func3, Try.ntmps3
    go_upto_region 2 with (first
      | (go_at_call 8; (with_reducible refine (awake7_any _).mono ?_); rintro e w2 ⟨rfl, hb⟩; have HW := Lib.hid ((one_new w _).trans (hb.mono (one_new w _).size)); have b0 := (bcell hb).1 w.heap.size 0 (by simp); have b1 := (bcell hb).1 w.heap.size 1 (by simp); simp at b0 b1; clear hb)
      | (go_at_call 9; (with_reducible refine (HS.out _ HW.out).mono ?_); rintro e w3 ⟨rfl, hb⟩; replace HW := Lib.hid (HW.out.trans (hb.mono HW.out.size)); clear hb))
    go_wp2_with (go_at_call 8; (with_reducible refine (awake7_any _).mono ?_); rintro e w4 ⟨rfl, hb⟩; replace HW := Lib.hid (HW.out.trans (hb.mono HW.out.size)); clear hb)
    go_ret
    exact ⟨rfl, HW.out⟩
  | true =>
    have hfw : fewB rs ns = true := by rw [Bool.and_eq_true] at hsm; exact hsm.1
    have hok : chkL rs ns = .ok := okB_ok (by rw [Bool.and_eq_true] at hsm; exact hsm.2)
    rw [hsm] at HS
    obtain ⟨-, -, hrl, hnl⟩ := fewB_yes hfw
    obtain ⟨-, -, hr0, -, hgood, hord, hdep⟩ := chkL_ok hok
    have hex := ordR_ex hord
    have hop : ∀ n, n ∈ ns → 0 ≤ n.op ∧ n.op ≤ 9 := fun n hn => by have := made_kind (good_mem hgood hn); exact ⟨this.1, this.2.1⟩
    have HSUM := Lib.hid (opN_sum ns hop)
    have HKR := Lib.hid (kids_rules hord)
    have HNN := Lib.hid hN
    obtain ⟨-, ra, rc, rfl, -⟩ := hR
    obtain ⟨-, na, nc, rfl, hna⟩ := hN
    have HO1 := Lib.hid (fun (W : World) (hb : Below w.heap.size w W) => mof_any ra rc rs.length (.slice na ns.length nc) ns W (HNN.out.kept hb (Nat.le_refl _)) (by omega) hex.kids hop)
    have HO2 := Lib.hid (fun (W : World) (hb : Below w.heap.size w W) => r7of_any ra rc rs.length (.slice na ns.length nc) ns W (HNN.out.kept hb (Nat.le_refl _)) (by omega) hex.kids hop hdep)
    generalize maxL (depsL ns) = D at HO1 HO2
    generalize leafN ns = L at HO1 HO2
    generalize opN ns = o at HO1 HO2 HSUM
    unfold sizesV at HO1 HO2
    clear hsm hfw hok hgood hord hdep hex hop
    go_enter Try.func3, Try.ntmps3
    go_upto_region 6 with (first
      | (go_at_call 8; (with_reducible refine (awake7_any _).mono ?_); rintro e w2 ⟨rfl, hb⟩; have HW := Lib.hid ((one_new w _).trans (hb.mono (one_new w _).size)); have b0 := (bcell hb).1 w.heap.size 0 (by simp); have b1 := (bcell hb).1 w.heap.size 1 (by simp); simp at b0 b1; clear hb)
      | (go_at_call 9; (with_reducible refine (HS.out _ HW.out).mono ?_); rintro e w3 ⟨rfl, hb⟩; replace HW := Lib.hid (HW.out.trans (hb.mono HW.out.size)); have d0 := (bcell hb).1 _ 0 (lt_of_cell b0); have d1 := (bcell hb).1 _ 1 (lt_of_cell b1); rw [b0] at d0; rw [b1] at d1; clear hb b0 b1)
      | (go_at_call 10; (with_reducible refine (HO1.out _ HW.out).mono ?_); rintro e w4 ⟨rfl, hb⟩; replace HW := Lib.hid (HW.out.trans (hb.mono HW.out.size)); have e0 := (bcell hb).1 _ 0 (lt_of_cell d0); have e1 := (bcell hb).1 _ 1 (lt_of_cell d1); rw [d0] at e0; rw [d1] at e1; clear hb d0 d1))
    generalize hW5 : World.alloc w4 (.cells #[.int .i64 (rs.length : Int), .int .i64 (ns.length : Int), .int .i64 (D : Int), .int .i64 (L : Int), .int .i64 (o 0 : Int), .int .i64 (o 1 : Int), .int .i64 (o 2 : Int), .int .i64 (o 3 : Int), .int .i64 (o 4 : Int), .int .i64 (o 5 : Int), .int .i64 (o 6 : Int), .int .i64 (o 7 : Int), .int .i64 (o 8 : Int), .int .i64 (o 9 : Int)] 30) = W5
    have hbl : Bl W5 w4.heap.size 30 #[.int .i64 (rs.length : Int), .int .i64 (ns.length : Int), .int .i64 (D : Int), .int .i64 (L : Int), .int .i64 (o 0 : Int), .int .i64 (o 1 : Int), .int .i64 (o 2 : Int), .int .i64 (o 3 : Int), .int .i64 (o 4 : Int), .int .i64 (o 5 : Int), .int .i64 (o 6 : Int), .int .i64 (o 7 : Int), .int .i64 (o 8 : Int), .int .i64 (o 9 : Int)] := by rw [← hW5]; exact Bl.new w4 _ _
    have hb5 : Below w.heap.size w W5 := by rw [← hW5]; exact HW.out.alloc HW.out.size _
    have f0 : W5.cell? ⟨w.heap.size, 0, none⟩ = some (.slice ra rs.length rc) := by rw [← hW5, (bcell (one_new w4 _)).1 _ _ (lt_of_cell e0)]; exact e0
    have f1 : W5.cell? ⟨w.heap.size, 1, none⟩ = some (.slice na ns.length nc) := by rw [← hW5, (bcell (one_new w4 _)).1 _ _ (lt_of_cell e1)]; exact e1
    generalize w4.heap.size = S at *
    have HST := Lib.hid (show ∀ k, k < 10 → W5.cell? ⟨S, 4 + k, none⟩ = some (.int .i64 (o k : Int)) from fun k hk => by
      match k, hk with
      | 0, _ => exact hbl.cell (o := 4) rfl
      | 1, _ => exact hbl.cell (o := 5) rfl
      | 2, _ => exact hbl.cell (o := 6) rfl
      | 3, _ => exact hbl.cell (o := 7) rfl
      | 4, _ => exact hbl.cell (o := 8) rfl
      | 5, _ => exact hbl.cell (o := 9) rfl
      | 6, _ => exact hbl.cell (o := 10) rfl
      | 7, _ => exact hbl.cell (o := 11) rfl
      | 8, _ => exact hbl.cell (o := 12) rfl
      | 9, _ => exact hbl.cell (o := 13) rfl)
    have HBL := Lib.hid hbl
    have HB5 := Lib.hid hb5
    clear hW5 hbl hb5 e0 e1 HW HS HO1
    go_loopw [5, 4] (fun c u wr => ∃ k : Nat, k ≤ 10 ∧ c = .int .i64 k ∧ u = .int .i64 (sumR o k : Int) ∧ wr = W5) (fun c _ _ => 10 - (intOf c).toNat)
    case atStart => exact ⟨0, by omega, rfl, rfl, rfl⟩
    case round =>
      obtain ⟨k, hk, rfl, rfl, hw⟩ := hrel
      obtain rfl := hw.symm
      clear hw
      have hle := sumR_le o (10 - k) k
      rw [show k + (10 - k) = 10 by omega, HSUM.out] at hle
      by_cases hlt : k < 10
      · have k1 : (k : Int) < 10 := by omega
        have c0 := HST.out k hlt
        have hle2 := sumR_le o (10 - (k + 1)) (k + 1)
        rw [show (k + 1) + (10 - (k + 1)) = 10 by omega, HSUM.out] at hle2
        have es : sumR o (k + 1) = sumR o k + o k := rfl
        rw [es] at hle2
        have HE := Lib.hid es
        have ew : IntKind.i64.wrap ((sumR o k : Int) + (o k : Int)) = ((sumR o k + o k : Nat) : Int) := by rw [show (sumR o k : Int) + (o k : Int) = ((sumR o k + o k : Nat) : Int) by omega]; exact IntWalk.i64_in _ (by omega)
        clear es hle hle2
        go_wp2
        go_roundw
        case rel => exact ⟨k + 1, hlt, by go_num, by rw [HE.out]; go_num, trivial⟩
        case measure => simp [intOf]; omega
      · obtain rfl : k = 10 := by omega
        have HSU := Lib.hid (show sumR o 10 = ns.length from HSUM.out)
        generalize sumR o 10 = sm at *
        clear hle
        go_wp2
        go_loopw [7, 6] (fun c u wr => ∃ k : Nat, k ≤ ns.length ∧ c = .int .i64 k ∧ u = .int .i64 (kidsN (ns.take k) : Int) ∧ wr = W5) (fun c _ _ => ns.length - (intOf c).toNat)
        case atStart => exact ⟨0, Nat.zero_le _, rfl, rfl, rfl⟩
        case round =>
          obtain ⟨k, hk, rfl, rfl, hw⟩ := hrel
          obtain rfl := hw.symm
          clear hw
          have hle := kidsN_le ns k
          have hkr := HKR.out
          by_cases hlt : k < ns.length
          · have k1 : (k : Int) < (ns.length : Int) := by omega
            obtain ⟨n, hn⟩ : ∃ n, ns[k]? = some n := ⟨_, List.getElem?_eq_getElem hlt⟩
            rcases hna with h0 | ⟨nb, no, rfl, hca⟩
            · rw [h0] at hlt; exact absurd hlt (Nat.not_lt_zero _)
            obtain ⟨kv, -, c1, -, -, -, -, -, ci, cl⟩ := (hca k n hn).kept HB5.out (Nat.le_refl _)
            obtain ⟨ka, kc, rfl, -⟩ := ci
            have hle2 := kidsN_le ns (k + 1)
            rw [kidsN_take hn] at hle2
            have HE := Lib.hid (kidsN_take hn)
            have ew : IntKind.i64.wrap ((kidsN (ns.take k) : Int) + (n.kids.length : Int)) = ((kidsN (ns.take k) + n.kids.length : Nat) : Int) := by rw [show (kidsN (ns.take k) : Int) + (n.kids.length : Int) = ((kidsN (ns.take k) + n.kids.length : Nat) : Int) by omega]; exact IntWalk.i64_in _ (by omega)
            clear hca hn hle hle2 hkr cl
            go_wp2
            go_roundw
            case rel => exact ⟨k + 1, by omega, by go_num, by rw [HE.out]; go_num, trivial⟩
            case measure => simp [intOf]; omega
          · obtain rfl : k = ns.length := by omega
            have k1 : ¬ (ns.length : Int) < (ns.length : Int) := by omega
            rw [List.take_length]
            obtain ⟨kn, hkn⟩ : ∃ kn, kidsN ns = kn := ⟨_, rfl⟩
            rw [hkn] at hkr ⊢
            have e1 : IntKind.i64.wrap ((rs.length : Int) + (kn : Int)) = (ns.length : Int) := by rw [show (rs.length : Int) + (kn : Int) = (ns.length : Int) by omega]; exact IntWalk.i64_in _ (by omega)
            have e2 : ((sm : Int) == (ns.length : Int)) = true := by rw [HSU.out]; simp
            have e3 : ((ns.length : Int) == (ns.length : Int)) = true := by simp
            clear hkn hle hkr
            go_wp2
            obtain ⟨n0, hn0⟩ : ∃ n0, w.heap.size = n0 := ⟨_, rfl⟩
            have hnw : n0 ≤ w.heap.size := Nat.le_of_eq hn0.symm
            have HN0 := Lib.hid hn0
            have hC : ∀ W, Below n0 w W → Calls Try.prog 11 #[.agg #[.slice ra rs.length rc, .slice na ns.length nc]] W fun e w' => e = .returned (.agg #[(.int .i64 (rs.length : Int)), (.int .i64 (ns.length : Int)), (.int .i64 (D : Int)), (.int .i64 (L : Int)), (.int .i64 (o 0 : Int)), (.int .i64 (o 1 : Int)), (.int .i64 (o 2 : Int)), (.int .i64 (o 3 : Int)), (.int .i64 (o 4 : Int)), (.int .i64 (o 5 : Int)), (.int .i64 (o 6 : Int)), (.int .i64 (o 7 : Int)), (.int .i64 (o 8 : Int)), (.int .i64 (o 9 : Int))]) ∧ Below W.heap.size W w' := fun W hW => HO2.out W (by rw [hn0]; exact hW)
            have HC := Lib.hid hC
            have heq := eql_sizes (rs.length : Int) (ns.length : Int) (D : Int) (L : Int) (o 0 : Int) (o 1 : Int) (o 2 : Int) (o 3 : Int) (o 4 : Int) (o 5 : Int) (o 6 : Int) (o 7 : Int) (o 8 : Int) (o 9 : Int)
            have hgt := gt_sizes
            have hS : (fun W : World => W.cell? ⟨w.heap.size, 0, none⟩ = some (.slice ra rs.length rc) ∧ W.cell? ⟨w.heap.size, 1, none⟩ = some (.slice na ns.length nc) ∧ W.cell? ⟨S, 0, none⟩ = some (.int .i64 (rs.length : Int)) ∧ W.cell? ⟨S, 1, none⟩ = some (.int .i64 (ns.length : Int)) ∧ W.cell? ⟨S, 2, none⟩ = some (.int .i64 (D : Int)) ∧ W.cell? ⟨S, 3, none⟩ = some (.int .i64 (L : Int)) ∧ W.cell? ⟨S, 4, none⟩ = some (.int .i64 (o 0 : Int)) ∧ W.cell? ⟨S, 5, none⟩ = some (.int .i64 (o 1 : Int)) ∧ W.cell? ⟨S, 6, none⟩ = some (.int .i64 (o 2 : Int)) ∧ W.cell? ⟨S, 7, none⟩ = some (.int .i64 (o 3 : Int)) ∧ W.cell? ⟨S, 8, none⟩ = some (.int .i64 (o 4 : Int)) ∧ W.cell? ⟨S, 9, none⟩ = some (.int .i64 (o 5 : Int)) ∧ W.cell? ⟨S, 10, none⟩ = some (.int .i64 (o 6 : Int)) ∧ W.cell? ⟨S, 11, none⟩ = some (.int .i64 (o 7 : Int)) ∧ W.cell? ⟨S, 12, none⟩ = some (.int .i64 (o 8 : Int)) ∧ W.cell? ⟨S, 13, none⟩ = some (.int .i64 (o 9 : Int)) ∧ Below n0 w W) W5.drew := ⟨f0, f1, HBL.out.cell (o := 0) rfl, HBL.out.cell (o := 1) rfl, HBL.out.cell (o := 2) rfl, HBL.out.cell (o := 3) rfl, HBL.out.cell (o := 4) rfl, HBL.out.cell (o := 5) rfl, HBL.out.cell (o := 6) rfl, HBL.out.cell (o := 7) rfl, HBL.out.cell (o := 8) rfl, HBL.out.cell (o := 9) rfl, HBL.out.cell (o := 10) rfl, HBL.out.cell (o := 11) rfl, HBL.out.cell (o := 12) rfl, HBL.out.cell (o := 13) rfl, by rw [← hn0]; exact HB5.out.drew⟩
            clear hn0 hC f0 f1
            dsimp only at hS
            go_region_held3 (fun W => W.cell? ⟨w.heap.size, 0, none⟩ = some (.slice ra rs.length rc) ∧ W.cell? ⟨w.heap.size, 1, none⟩ = some (.slice na ns.length nc) ∧ W.cell? ⟨S, 0, none⟩ = some (.int .i64 (rs.length : Int)) ∧ W.cell? ⟨S, 1, none⟩ = some (.int .i64 (ns.length : Int)) ∧ W.cell? ⟨S, 2, none⟩ = some (.int .i64 (D : Int)) ∧ W.cell? ⟨S, 3, none⟩ = some (.int .i64 (L : Int)) ∧ W.cell? ⟨S, 4, none⟩ = some (.int .i64 (o 0 : Int)) ∧ W.cell? ⟨S, 5, none⟩ = some (.int .i64 (o 1 : Int)) ∧ W.cell? ⟨S, 6, none⟩ = some (.int .i64 (o 2 : Int)) ∧ W.cell? ⟨S, 7, none⟩ = some (.int .i64 (o 3 : Int)) ∧ W.cell? ⟨S, 8, none⟩ = some (.int .i64 (o 4 : Int)) ∧ W.cell? ⟨S, 9, none⟩ = some (.int .i64 (o 5 : Int)) ∧ W.cell? ⟨S, 10, none⟩ = some (.int .i64 (o 6 : Int)) ∧ W.cell? ⟨S, 11, none⟩ = some (.int .i64 (o 7 : Int)) ∧ W.cell? ⟨S, 12, none⟩ = some (.int .i64 (o 8 : Int)) ∧ W.cell? ⟨S, 13, none⟩ = some (.int .i64 (o 9 : Int)) ∧ Below n0 w W) (first | exact hS)
              (first | (go_at_call 11; with_reducible refine (HC.out _ hS.2.2.2.2.2.2.2.2.2.2.2.2.2.2.2.2).mono ?_; rintro ev w6 ⟨rfl, hb⟩; replace hS := sizK hnw hb hS; clear hb))
            obtain ⟨-, -, -, -, -, -, -, -, -, -, -, -, -, -, -, -, hbf⟩ := hS
            have HBF := Lib.hid (show Below w.heap.size w w6 by rw [HN0.out]; exact hbf)
            clear hbf
            go_wp2
            go_ret
            exact ⟨rfl, HBF.out⟩
end Go.Proofs.Ytklimoepkifnhaa
