/- The reference: Same, at two files that are one. The program's Same, at two files that are one, and at two whose first rules have other names. The law package's back. -/
import Derived.Deep.Cut
import Derived.Deep.RegionLaw
import Derived.Test.YtmjnbapkpcfgcaaGreatDoorPkD
import Derived.Test.YtmjnbapkpcfgcaaGreatDoorPkS
import Derived.Test.YtmjnbapkpcfgcaaGreatDoorPkO
import Derived.Test.YtmjnbapkpcfgcaaGreatDoorPkU
namespace Go.Proofs.YtmjnbapkpcfgcaaGreatDoor
section
open Go.RowKit
/-- A file as its rows. -/
def FileIn (W : World) (rv nv cv : Value) (rs : List (List Nat × Nat × Int)) (f : MF) : Prop := (rs.length ≤ maxLen ∧ f.calls.length ≤ maxLen) ∧ CellsAt W rv rs.length (defsC rs) ∧ NodesAt W nv f.nodes ∧ CellsAt W cv f.calls.length (namesC f.calls)
theorem FileIn.below {W W' : World} {rv nv cv : Value} {rs : List (List Nat × Nat × Int)} {f : MF} (h : FileIn W rv nv cv rs f) (hb : Below W.heap.size W W') : FileIn W' rv nv cv rs f := ⟨h.1, h.2.1.kept hb (Nat.le_refl _), h.2.2.1.kept hb (Nat.le_refl _), h.2.2.2.kept hb (Nat.le_refl _)⟩
theorem def_cells {w wr : World} {b off k : Nat} {rs : List (List Nat × Nat × Int)} {x : List Nat × Nat × Int} (h : ∀ j u, (defsC rs)[j]? = some u → w.cell? ⟨b, off + j, none⟩ = some u) (hx : rs[k]? = some x) (hb : Below w.heap.size w wr) :
    wr.cell? ⟨b, off + k * 3, none⟩ = some (.string (strOf x.1)) ∧ wr.cell? ⟨b, off + k * 3 + 1, none⟩ = some (.int .i64 (x.2.1 : Int)) ∧ wr.cell? ⟨b, off + k * 3 + 2, none⟩ = some (.int .i64 x.2.2) ∧ b < wr.heap.size := by
  have c : ∀ j, j < 3 → ∀ u, (defC x)[j]? = some u → wr.cell? ⟨b, off + k * 3 + j, none⟩ = some u := fun j hj u hu => by
    have e := flat_at defC 3 (fun _ => rfl) rs k x j hx hj
    rw [hu] at e
    have := h _ u e
    rw [(bcell hb).1 _ _ (lt_of_cell this), Nat.add_assoc]
    exact this
  exact ⟨c 0 (by decide) _ rfl, c 1 (by decide) _ rfl, c 2 (by decide) _ rfl, lt_of_cell (c 0 (by decide) _ rfl)⟩
theorem name_cells {w wr : World} {b off k : Nat} {l : List (List Nat × Nat)} {x : List Nat × Nat} (h : ∀ j u, (namesC l)[j]? = some u → w.cell? ⟨b, off + j, none⟩ = some u) (hx : l[k]? = some x) (hb : Below w.heap.size w wr) :
    wr.cell? ⟨b, off + k * 2, none⟩ = some (.string (strOf x.1)) ∧ wr.cell? ⟨b, off + k * 2 + 1, none⟩ = some (.int .i64 (x.2 : Int)) ∧ b < wr.heap.size := by
  have c : ∀ j, j < 2 → ∀ u, (nameC x)[j]? = some u → wr.cell? ⟨b, off + k * 2 + j, none⟩ = some u := fun j hj u hu => by
    have e := flat_at nameC 2 (fun _ => rfl) l k x j hx hj
    rw [hu] at e
    have := h _ u e
    rw [(bcell hb).1 _ _ (lt_of_cell this), Nat.add_assoc]
    exact this
  exact ⟨c 0 (by decide) _ rfl, c 1 (by decide) _ rfl, lt_of_cell (c 0 (by decide) _ rfl)⟩
set_option maxHeartbeats 8000000 in
set_option maxRecDepth 100000 in
theorem qsame_true (rv nv cv rv' nv' cv' : Value) (rs : List (List Nat × Nat × Int)) (f : MF) (w : World) (h1 : FileIn w rv nv cv rs f) (h2 : FileIn w rv' nv' cv' rs f) :
    Calls Tryz.prog 11 #[.agg #[rv, nv, cv], .agg #[rv', nv', cv']] w fun e w' => e = .returned (.bool true) ∧ Below w.heap.size w w' := by
  have HB := Lib.hid (fun (o o' : Obj) => two_new w o o')
  obtain ⟨⟨hm1, hm3⟩, ⟨a1, c1, rfl, -, ha1⟩, ⟨hm2, a2, c2, rfl, ha2⟩, a3, c3, rfl, -, ha3⟩ := h1
  obtain ⟨-, ⟨b1, d1, rfl, -, hb1⟩, ⟨-, b2, d2, rfl, hb2⟩, b3, d3, rfl, -, hb3⟩ := h2
  unfold maxLen at hm1 hm2 hm3
  have HA1 := Lib.hid ha1
  have HA2 := Lib.hid ha2
  have HA3 := Lib.hid ha3
  have HB1 := Lib.hid hb1
  have HB2 := Lib.hid hb2
  have HB3 := Lib.hid hb3
  clear ha1 ha2 ha3 hb1 hb2 hb3
  go_enter Tryz.func11, Tryz.ntmps11
  go_wp2
  go_loopw [5] (fun c wr => ∃ k : Nat, k ≤ rs.length ∧ c = .int .i64 k ∧ Below w.heap.size w wr ∧ w.heap.size + 1 < wr.heap.size ∧ wr.cell? ⟨w.heap.size, 0, none⟩ = some (.slice a1 rs.length c1) ∧ wr.cell? ⟨w.heap.size, 1, none⟩ = some (.slice a2 f.nodes.length c2) ∧ wr.cell? ⟨w.heap.size, 2, none⟩ = some (.slice a3 f.calls.length c3) ∧ wr.cell? ⟨w.heap.size + 1, 0, none⟩ = some (.slice b1 rs.length d1) ∧ wr.cell? ⟨w.heap.size + 1, 1, none⟩ = some (.slice b2 f.nodes.length d2) ∧ wr.cell? ⟨w.heap.size + 1, 2, none⟩ = some (.slice b3 f.calls.length d3)) (fun c _ => rs.length - (intOf c).toNat)
  case atStart => exact ⟨0, Nat.zero_le _, rfl, HB.out _ _, by simp, by simp <;> omega, by simp <;> omega, by simp <;> omega, by simp <;> omega, by simp <;> omega, by simp <;> omega⟩
  case round =>
    obtain ⟨k, hk, rfl, hbw, hsw, g0, g1, g2, h0, h1, h2⟩ := hrel
    have HW := Lib.hid hbw
    by_cases hlt : k < rs.length
    · obtain ⟨x, hx⟩ : ∃ x, rs[k]? = some x := ⟨_, List.getElem?_eq_getElem hlt⟩
      rcases HA1.out with hz | ⟨ab, ao, rfl, hca⟩
      · rw [hz] at hlt; exact absurd hlt (Nat.not_lt_zero _)
      rcases HB1.out with hz | ⟨bb, bo, rfl, hcb⟩
      · rw [hz] at hlt; exact absurd hlt (Nat.not_lt_zero _)
      obtain ⟨e0, e1, e2, e3⟩ := def_cells hca hx hbw
      obtain ⟨f0, f1, f2, f3⟩ := def_cells hcb hx hbw
      have k1 : (k : Int) < (rs.length : Int) := by omega
      clear hca hcb hx hbw
      have qg := qdgt
      have q2 : ∀ w, (binOp .neq 45 (.agg #[.string (strOf x.1), .int .i64 (x.2.1 : Int), .int .i64 x.2.2]) (.agg #[.string (strOf x.1), .int .i64 (x.2.1 : Int), .int .i64 x.2.2])).run Tryz.prog w = .ok (.bool false) w := fun w => by rw [qdneq]; simp
      go_wp2
      go_quiet (fail)
      go_wp2
      go_roundw
      case rel => exact ⟨k + 1, by omega, by go_num, below_drewN HW.out, hsw, g0, g1, g2, h0, h1, h2⟩
      case measure => simp [intOf]; omega
    · have k1 : ¬ (k : Int) < (rs.length : Int) := by omega
      clear hbw hk hlt
      go_wp2
      go_loopw [6] (fun c wr => ∃ k : Nat, k ≤ f.calls.length ∧ c = .int .i64 k ∧ Below w.heap.size w wr ∧ w.heap.size + 1 < wr.heap.size ∧ wr.cell? ⟨w.heap.size, 0, none⟩ = some (.slice a1 rs.length c1) ∧ wr.cell? ⟨w.heap.size, 1, none⟩ = some (.slice a2 f.nodes.length c2) ∧ wr.cell? ⟨w.heap.size, 2, none⟩ = some (.slice a3 f.calls.length c3) ∧ wr.cell? ⟨w.heap.size + 1, 0, none⟩ = some (.slice b1 rs.length d1) ∧ wr.cell? ⟨w.heap.size + 1, 1, none⟩ = some (.slice b2 f.nodes.length d2) ∧ wr.cell? ⟨w.heap.size + 1, 2, none⟩ = some (.slice b3 f.calls.length d3)) (fun c _ => f.calls.length - (intOf c).toNat)
      case atStart => exact ⟨0, Nat.zero_le _, rfl, HW.out, hsw, g0, g1, g2, h0, h1, h2⟩
      case round =>
        clear g0 g1 g2 h0 h1 h2 HW hsw k1
        obtain ⟨k, hk, rfl, hbw, hsw, g0, g1, g2, h0, h1, h2⟩ := hrel
        have HW := Lib.hid hbw
        by_cases hlt : k < f.calls.length
        · obtain ⟨x, hx⟩ : ∃ x, f.calls[k]? = some x := ⟨_, List.getElem?_eq_getElem hlt⟩
          rcases HA3.out with hz | ⟨ab, ao, rfl, hca⟩
          · rw [hz] at hlt; exact absurd hlt (Nat.not_lt_zero _)
          rcases HB3.out with hz | ⟨bb, bo, rfl, hcb⟩
          · rw [hz] at hlt; exact absurd hlt (Nat.not_lt_zero _)
          obtain ⟨e0, e1, e2⟩ := name_cells hca hx hbw
          obtain ⟨f0, f1, f2⟩ := name_cells hcb hx hbw
          have k1 : (k : Int) < (f.calls.length : Int) := by omega
          clear hca hcb hx hbw
          have qg := qngt
          have q2 : ∀ w, (binOp .neq 47 (.agg #[.string (strOf x.1), .int .i64 (x.2 : Int)]) (.agg #[.string (strOf x.1), .int .i64 (x.2 : Int)])).run Tryz.prog w = .ok (.bool false) w := fun w => by rw [qnneq]; simp
          go_wp2
          go_quiet (fail)
          go_wp2
          go_roundw
          case rel => exact ⟨k + 1, by omega, by go_num, below_drewN HW.out, hsw, g0, g1, g2, h0, h1, h2⟩
          case measure => simp [intOf]; omega
        · have k1 : ¬ (k : Int) < (f.calls.length : Int) := by omega
          clear hbw hk hlt
          go_wp2
          go_loopw [7] (fun c wr => ∃ k : Nat, k ≤ f.nodes.length ∧ c = .int .i64 k ∧ Below w.heap.size w wr ∧ w.heap.size + 1 < wr.heap.size ∧ wr.cell? ⟨w.heap.size, 1, none⟩ = some (.slice a2 f.nodes.length c2) ∧ wr.cell? ⟨w.heap.size + 1, 1, none⟩ = some (.slice b2 f.nodes.length d2)) (fun c _ => f.nodes.length - (intOf c).toNat)
          case atStart => exact ⟨0, Nat.zero_le _, rfl, HW.out, hsw, g1, h1⟩
          case round =>
            clear g0 g1 g2 h0 h1 h2 HW hsw k1
            obtain ⟨i, hi, rfl, hbw, hsw, g1, h1⟩ := hrel
            have HW := Lib.hid hbw
            by_cases hlt : i < f.nodes.length
            · obtain ⟨x, hx⟩ : ∃ x, f.nodes[i]? = some x := ⟨_, List.getElem?_eq_getElem hlt⟩
              rcases HA2.out with hz | ⟨ab, ao, rfl, hca⟩
              · rw [hz] at hlt; exact absurd hlt (Nat.not_lt_zero _)
              rcases HB2.out with hz | ⟨bb, bo, rfl, hcb⟩
              · rw [hz] at hlt; exact absurd hlt (Nat.not_lt_zero _)
              obtain ⟨kv, c0, c1', c2', c3', c4, c5, c6, ci, cl⟩ := (hca i x hx).kept hbw (Nat.le_refl _)
              obtain ⟨kv', d0, d1', d2', d3', d4, d5, d6, di, -⟩ := (hcb i x hx).kept hbw (Nat.le_refl _)
              unfold maxLen at cl
              have j1 : (i : Int) < (f.nodes.length : Int) := by omega
              have la := lt_of_cell c0
              have lb := lt_of_cell d0
              clear hca hcb hx hbw
              have CI := Lib.hid ci
              have DI := Lib.hid di
              obtain ⟨ka, kc, rfl, -⟩ := ci
              obtain ⟨ka', kc', rfl, -⟩ := di
              go_upto_region 18 with fail
              have hb2 := two_new wr (.cells #[.int .i64 x.op, .slice ka x.kids.length kc, .int .i64 x.rule, .int .u64 x.s0, .int .u64 x.s1, .int .u64 x.s2, .int .u64 x.s3] 55) (.cells #[.int .i64 x.op, .slice ka' x.kids.length kc', .int .i64 x.rule, .int .u64 x.s0, .int .u64 x.s1, .int .u64 x.s2, .int .u64 x.s3] 55)
              obtain ⟨W2, hW2⟩ : ∃ W2, ((wr.alloc (.cells #[.int .i64 x.op, .slice ka x.kids.length kc, .int .i64 x.rule, .int .u64 x.s0, .int .u64 x.s1, .int .u64 x.s2, .int .u64 x.s3] 55)).alloc (.cells #[.int .i64 x.op, .slice ka' x.kids.length kc', .int .i64 x.rule, .int .u64 x.s0, .int .u64 x.s1, .int .u64 x.s2, .int .u64 x.s3] 55)) = W2 := ⟨_, rfl⟩
              have u0 : W2.cell? ⟨wr.heap.size, 0, none⟩ = some (.int .i64 x.op) := by rw [← hW2]; simp
              have u1 : W2.cell? ⟨wr.heap.size, 1, none⟩ = some (.slice ka x.kids.length kc) := by rw [← hW2]; simp
              have u2 : W2.cell? ⟨wr.heap.size, 2, none⟩ = some (.int .i64 x.rule) := by rw [← hW2]; simp
              have u3 : W2.cell? ⟨wr.heap.size, 3, none⟩ = some (.int .u64 x.s0) := by rw [← hW2]; simp
              have u4 : W2.cell? ⟨wr.heap.size, 4, none⟩ = some (.int .u64 x.s1) := by rw [← hW2]; simp
              have u5 : W2.cell? ⟨wr.heap.size, 5, none⟩ = some (.int .u64 x.s2) := by rw [← hW2]; simp
              have u6 : W2.cell? ⟨wr.heap.size, 6, none⟩ = some (.int .u64 x.s3) := by rw [← hW2]; simp
              have v0 : W2.cell? ⟨wr.heap.size + 1, 0, none⟩ = some (.int .i64 x.op) := by rw [← hW2]; simp
              have v1 : W2.cell? ⟨wr.heap.size + 1, 1, none⟩ = some (.slice ka' x.kids.length kc') := by rw [← hW2]; simp
              have v2 : W2.cell? ⟨wr.heap.size + 1, 2, none⟩ = some (.int .i64 x.rule) := by rw [← hW2]; simp
              have v3 : W2.cell? ⟨wr.heap.size + 1, 3, none⟩ = some (.int .u64 x.s0) := by rw [← hW2]; simp
              have v4 : W2.cell? ⟨wr.heap.size + 1, 4, none⟩ = some (.int .u64 x.s1) := by rw [← hW2]; simp
              have v5 : W2.cell? ⟨wr.heap.size + 1, 5, none⟩ = some (.int .u64 x.s2) := by rw [← hW2]; simp
              have v6 : W2.cell? ⟨wr.heap.size + 1, 6, none⟩ = some (.int .u64 x.s3) := by rw [← hW2]; simp
              rw [hW2]
              rw [hW2] at hb2
              have hsz2 := hb2.size
              have HW2 := Lib.hid (HW.out.trans (hb2.mono (by omega)))
              have m1 := (bcell hb2).1 _ 1 (lt_of_cell g1)
              have m3 := (bcell hb2).1 _ 1 (lt_of_cell h1)
              rw [g1] at m1
              rw [h1] at m3
              have CI2 := Lib.hid (CI.out.kept hb2 (Nat.le_refl _))
              have DI2 := Lib.hid (DI.out.kept hb2 (Nat.le_refl _))
              clear hW2 hb2 g1 h1 c0 c1' c2' c3' c4 c5 c6 d0 d1' d2' d3' d4 d5 d6 la lb CI DI
              have qs : ∀ w, (binOp .neq 53 (.agg #[.int .u64 x.s0, .int .u64 x.s1, .int .u64 x.s2, .int .u64 x.s3]) (.agg #[.int .u64 x.s0, .int .u64 x.s1, .int .u64 x.s2, .int .u64 x.s3])).run Tryz.prog w = .ok (.bool false) w := fun w => by rw [gneq_set]; simp
              have HS := Lib.hid qs
              clear qs
              go_wp2_with (with_reducible refine gwpList_agg BinOp.neq 53 _ _ _ rfl rfl _ _ rfl rfl ggt_set _ (HS.out _) ?_)
              go_loopw [10] (fun c wq => ∃ j q : Nat, j ≤ x.kids.length ∧ c = .int .i64 j ∧ wq = W2.drewN q) (fun c _ => x.kids.length - (intOf c).toNat)
              case atStart => exact ⟨0, 0, Nat.zero_le _, rfl, rfl⟩
              case round =>
                obtain ⟨j, q, hj, rfl, rfl⟩ := hrel
                by_cases hjl : j < x.kids.length
                · obtain ⟨u, hu⟩ : ∃ u, x.kids[j]? = some u := ⟨_, List.getElem?_eq_getElem hjl⟩
                  obtain ⟨_, _, es, hk1⟩ := CI2.out
                  injection es with es1 es2 es3
                  subst es1 es3
                  obtain ⟨_, _, es, hk2⟩ := DI2.out
                  injection es with es1 es2 es3
                  subst es1 es3
                  rcases hk1 with hz | ⟨kb, ko, rfl, hk1⟩
                  · rw [hz] at hjl; exact absurd hjl (Nat.not_lt_zero _)
                  rcases hk2 with hz | ⟨kb', ko', rfl, hk2⟩
                  · rw [hz] at hjl; exact absurd hjl (Nat.not_lt_zero _)
                  have hu1 := hk1 j u hu
                  have hv1 := hk2 j u hu
                  have z1 : (j : Int) < (x.kids.length : Int) := by omega
                  clear hk1 hk2 hu CI2 DI2
                  go_wp2
                  go_quiet (fail)
                  go_wp2
                  go_roundw
                  case rel => exact ⟨j + 1, _, by omega, by go_num, rfl⟩
                  case measure => simp [intOf]; omega
                · have z1 : ¬ (j : Int) < (x.kids.length : Int) := by omega
                  go_wp2
                  go_roundw
                  case rel => exact ⟨i + 1, by omega, by go_num, below_drewN HW2.out, (show w.heap.size + 1 < W2.heap.size by omega), m1, m3⟩
                  case measure => simp [intOf]; omega
            · have j1 : ¬ (i : Int) < (f.nodes.length : Int) := by omega
              clear hbw
              go_wp2
              go_ret
              exact ⟨rfl, HW.out⟩
end
end Go.Proofs.YtmjnbapkpcfgcaaGreatDoor
namespace Go.Proofs.YtmjnbapkpcfgcaaGreatDoor
section
open Go.RowKit
set_option maxHeartbeats 2000000 in
set_option maxRecDepth 100000 in
theorem sSameNode_true (x : PN) (u v : Value) (w : World) (hl : x.kids.length ≤ maxLen) (hu : IntsAt w u x.kids) (hv : IntsAt w v x.kids) :
    Calls Tryz.prog 30 #[nodeV x u, nodeV x v] w fun e w' => e = .returned (.bool true) ∧ Below w.heap.size w w' := by
  obtain ⟨o1, ks, r1, x0, x1, x2, x3⟩ := x
  unfold nodeV
  dsimp only at hl hu hv ⊢
  have hB2 : ∀ (o o' : Obj), Below w.heap.size w ((w.alloc o).alloc o') := fun o o' => two_new w o o'
  have HU := Lib.hid (fun (o o' : Obj) => hu.kept (hB2 o o') (Nat.le_refl _))
  have HV := Lib.hid (fun (o o' : Obj) => hv.kept (hB2 o o') (Nat.le_refl _))
  have HB := Lib.hid hB2
  have HL := Lib.hid hl
  clear hB2 hu hv hl
  have qs : ∀ w, (binOp .eql 53 (.agg #[.int .u64 x0, .int .u64 x1, .int .u64 x2, .int .u64 x3]) (.agg #[.int .u64 x0, .int .u64 x1, .int .u64 x2, .int .u64 x3])).run Tryz.prog w = .ok (.bool true) w := fun w => by rw [geql_set]; simp
  have HS := Lib.hid qs
  have hd : decide (ks = ks) = true := decide_eq_true rfl
  clear qs
  go_enter Tryz.func30, Tryz.ntmps30
  go_wp2_with (first
    | (with_reducible refine gwpList_agg BinOp.eql 53 _ _ _ rfl rfl _ _ rfl rfl ggt_set _ (HS.out _) ?_)
    | (go_at_call 43; (with_reducible refine (intsEq_any _ _ ks ks _ HL.out (HU.out _ _) (HV.out _ _)).mono ?_); rintro e w' ⟨rfl, q, rfl⟩))
  go_ret
  exact ⟨by first | rfl | simp, below_drewN (HB.out _ _)⟩
set_option maxHeartbeats 4000000 in
set_option maxRecDepth 100000 in
theorem eqNodes_true (u v : Value) (l : List PN) (w : World) (hu : NodesAt w u l) (hv : NodesAt w v l) :
    Calls Tryz.prog 29 #[u, v, .func (.func 30) #[] #[]] w fun e w' => e = .returned (.bool true) ∧ Below w.heap.size w w' := by
  have HB0 := Lib.hid (Below.refl w.heap.size w)
  obtain ⟨hl, a, ca, rfl, ha⟩ := hu
  obtain ⟨-, b, cb, rfl, hb⟩ := hv
  unfold maxLen at hl
  go_enter Tryz.func29, Tryz.ntmps29
  go_wp2
  go_loopw [17] (fun c wr => ∃ (k : Nat), k ≤ l.length ∧ c = .int .i64 k ∧ Below w.heap.size w wr) (fun c _ => l.length - (intOf c).toNat)
  case atStart => exact ⟨0, Nat.zero_le _, rfl, HB0.out⟩
  case round =>
    obtain ⟨k, hk, rfl, hbw⟩ := hrel
    by_cases hlt : k < l.length
    · obtain ⟨x, hx⟩ : ∃ x, l[k]? = some x := ⟨_, List.getElem?_eq_getElem hlt⟩
      rcases ha with h0 | ⟨ab, ao, rfl, hca⟩
      · rw [h0] at hlt; exact absurd hlt (Nat.not_lt_zero _)
      rcases hb with h0 | ⟨bb, bo, rfl, hcb⟩
      · rw [h0] at hlt; exact absurd hlt (Nat.not_lt_zero _)
      obtain ⟨kv, c0, c1, c2, c3, c4, c5, c6, ci, cl⟩ := (hca k x hx).kept hbw (Nat.le_refl _)
      obtain ⟨kv', d0, d1, d2, d3, d4, d5, d6, di, -⟩ := (hcb k x hx).kept hbw (Nat.le_refl _)
      have k1 : (k : Int) < (l.length : Int) := by omega
      have HW := Lib.hid hbw
      have hsz := hbw.size
      clear hca hcb hx hbw
      have lb := lt_of_cell d0
      have la := lt_of_cell c0
      have CI := Lib.hid ci
      have DI := Lib.hid di
      obtain ⟨ka, kc, rfl, -⟩ := ci
      obtain ⟨ka', kc', rfl, -⟩ := di
      have hC : ∀ (W : World), Below wr.heap.size wr W → Calls Tryz.prog 30 #[nodeV x (.slice ka x.kids.length kc), nodeV x (.slice ka' x.kids.length kc')] W fun e w' => e = .returned (.bool true) ∧ Below W.heap.size W w' := fun W hW =>
        sSameNode_true x _ _ W cl (CI.out.kept hW (Nat.le_refl _)) (DI.out.kept hW (Nat.le_refl _))
      simp only [nodeV_eq] at hC
      have HC := Lib.hid hC
      clear hC CI DI
      go_wp2_with (go_at_call 30; (with_reducible refine (HC.out _ (two_new wr _ _)).mono ?_); rintro e w1 ⟨rfl, hb⟩; have HW1 := Lib.hid (HW.out.trans (two_then hb hsz)); clear hb)
      go_roundw
      case rel => exact ⟨k + 1, by omega, by go_num, HW1.out⟩
      case measure => simp [intOf]; omega
    · have k1 : ¬ (k : Int) < (l.length : Int) := by omega
      go_wp2
      go_ret
      exact ⟨rfl, hbw⟩
set_option maxHeartbeats 2000000 in
set_option maxRecDepth 100000 in
theorem eqDefs_true (u v : Value) (l : List (List Nat × Nat × Int)) (w : World) (hl : l.length ≤ maxLen) (hu : CellsAt w u l.length (defsC l)) (hv : CellsAt w v l.length (defsC l)) :
    Calls Tryz.prog 28 #[u, v] w fun e w' => e = .returned (.bool true) ∧ Below w.heap.size w w' := by
  have HB0 := Lib.hid (Below.refl w.heap.size w)
  obtain ⟨a, ca, rfl, -, ha⟩ := hu
  obtain ⟨b, cb, rfl, -, hb⟩ := hv
  unfold maxLen at hl
  go_enter Tryz.func28, Tryz.ntmps28
  go_wp2
  go_loopw [13] (fun c wr => ∃ k : Nat, k ≤ l.length ∧ c = .int .i64 k ∧ Below w.heap.size w wr) (fun c _ => l.length - (intOf c).toNat)
  case atStart => exact ⟨0, Nat.zero_le _, rfl, HB0.out⟩
  case round =>
    obtain ⟨k, hk, rfl, hbw⟩ := hrel
    by_cases hlt : k < l.length
    · obtain ⟨x, hx⟩ : ∃ x, l[k]? = some x := ⟨_, List.getElem?_eq_getElem hlt⟩
      rcases ha with h0 | ⟨ab, ao, rfl, hca⟩
      · rw [h0] at hlt; exact absurd hlt (Nat.not_lt_zero _)
      rcases hb with h0 | ⟨bb, bo, rfl, hcb⟩
      · rw [h0] at hlt; exact absurd hlt (Nat.not_lt_zero _)
      obtain ⟨e0, e1, e2, e3⟩ := def_cells hca hx hbw
      obtain ⟨f0, f1, f2, f3⟩ := def_cells hcb hx hbw
      have k1 : (k : Int) < (l.length : Int) := by omega
      have HW := Lib.hid hbw
      clear hca hcb hx hbw
      have qg := sdgt
      have q2 : ∀ w, (binOp .neq 49 (.agg #[.string (strOf x.1), .int .i64 (x.2.1 : Int), .int .i64 x.2.2]) (.agg #[.string (strOf x.1), .int .i64 (x.2.1 : Int), .int .i64 x.2.2])).run Tryz.prog w = .ok (.bool false) w := fun w => by rw [sdneq]; simp
      go_wp2
      go_quiet (fail)
      go_wp2
      go_roundw
      case rel => exact ⟨k + 1, by omega, by go_num, below_drewN HW.out⟩
      case measure => simp [intOf]; omega
    · have k1 : ¬ (k : Int) < (l.length : Int) := by omega
      go_wp2
      go_ret
      exact ⟨rfl, hbw⟩
set_option maxHeartbeats 2000000 in
set_option maxRecDepth 100000 in
theorem eqNames_true (u v : Value) (l : List (List Nat × Nat)) (w : World) (hl : l.length ≤ maxLen) (hu : CellsAt w u l.length (namesC l)) (hv : CellsAt w v l.length (namesC l)) :
    Calls Tryz.prog 31 #[u, v] w fun e w' => e = .returned (.bool true) ∧ Below w.heap.size w w' := by
  have HB0 := Lib.hid (Below.refl w.heap.size w)
  obtain ⟨a, ca, rfl, -, ha⟩ := hu
  obtain ⟨b, cb, rfl, -, hb⟩ := hv
  unfold maxLen at hl
  go_enter Tryz.func31, Tryz.ntmps31
  go_wp2
  go_loopw [13] (fun c wr => ∃ k : Nat, k ≤ l.length ∧ c = .int .i64 k ∧ Below w.heap.size w wr) (fun c _ => l.length - (intOf c).toNat)
  case atStart => exact ⟨0, Nat.zero_le _, rfl, HB0.out⟩
  case round =>
    obtain ⟨k, hk, rfl, hbw⟩ := hrel
    by_cases hlt : k < l.length
    · obtain ⟨x, hx⟩ : ∃ x, l[k]? = some x := ⟨_, List.getElem?_eq_getElem hlt⟩
      rcases ha with h0 | ⟨ab, ao, rfl, hca⟩
      · rw [h0] at hlt; exact absurd hlt (Nat.not_lt_zero _)
      rcases hb with h0 | ⟨bb, bo, rfl, hcb⟩
      · rw [h0] at hlt; exact absurd hlt (Nat.not_lt_zero _)
      obtain ⟨e0, e1, e2⟩ := name_cells hca hx hbw
      obtain ⟨f0, f1, f2⟩ := name_cells hcb hx hbw
      have k1 : (k : Int) < (l.length : Int) := by omega
      have HW := Lib.hid hbw
      clear hca hcb hx hbw
      have qg := sngt
      have q2 : ∀ w, (binOp .neq 58 (.agg #[.string (strOf x.1), .int .i64 (x.2 : Int)]) (.agg #[.string (strOf x.1), .int .i64 (x.2 : Int)])).run Tryz.prog w = .ok (.bool false) w := fun w => by rw [snneq]; simp
      go_wp2
      go_quiet (fail)
      go_wp2
      go_roundw
      case rel => exact ⟨k + 1, by omega, by go_num, below_drewN HW.out⟩
      case measure => simp [intOf]; omega
    · have k1 : ¬ (k : Int) < (l.length : Int) := by omega
      go_wp2
      go_ret
      exact ⟨rfl, hbw⟩
set_option maxHeartbeats 2000000 in
set_option maxRecDepth 100000 in
/-- Two rows of one rule each, with other names. -/
theorem eqDefs_ne (ab bb ao bo ca cb : Nat) (s r : ByteArray) (p q : Nat) (k j : Int) (w : World) (hne : (s.toList == r.toList) = false) (a0 : w.cell? ⟨ab, ao, none⟩ = some (.string s)) (a1 : w.cell? ⟨ab, ao + 1, none⟩ = some (.int .i64 (p : Int))) (a2 : w.cell? ⟨ab, ao + 2, none⟩ = some (.int .i64 k)) (b0 : w.cell? ⟨bb, bo, none⟩ = some (.string r)) (b1 : w.cell? ⟨bb, bo + 1, none⟩ = some (.int .i64 (q : Int))) (b2 : w.cell? ⟨bb, bo + 2, none⟩ = some (.int .i64 j)) :
    Calls Tryz.prog 28 #[.slice (some ⟨ab, ao, none⟩) 1 ca, .slice (some ⟨bb, bo, none⟩) 1 cb] w fun e w' => e = .returned (.bool false) ∧ Below w.heap.size w w' := by
  have HB0 := Lib.hid (Below.refl w.heap.size w)
  have qg := sdgt
  have q2 : ∀ w, (binOp .neq 49 (.agg #[.string s, .int .i64 (p : Int), .int .i64 k]) (.agg #[.string r, .int .i64 (q : Int), .int .i64 j])).run Tryz.prog w = .ok (.bool true) w := fun w => by rw [sdneq, hne]; rfl
  go_enter Tryz.func28, Tryz.ntmps28
  go_wp2
  refine wp_loop_rounds 2 ?_
  rw [rounds_succ]
  go_wp2
  go_quiet (fail)
  go_wp2
  go_ret
  exact ⟨rfl, below_drewN HB0.out⟩
set_option maxHeartbeats 2000000 in
set_option maxRecDepth 100000 in
theorem sSame_true (rv nv cv rv' nv' cv' : Value) (rs : List (List Nat × Nat × Int)) (f : MF) (w : World) (h1 : FileIn w rv nv cv rs f) (h2 : FileIn w rv' nv' cv' rs f) :
    Calls Tryz.prog 16 #[.agg #[rv, nv, cv], .agg #[rv', nv', cv']] w fun e w' => e = .returned (.bool true) ∧ Below w.heap.size w w' := by
  have H1 := Lib.hid fun (W : World) (hb : Below w.heap.size w W) => eqDefs_true rv rv' rs W h1.1.1 (h1.2.1.kept hb (Nat.le_refl _)) (h2.2.1.kept hb (Nat.le_refl _))
  have H2 := Lib.hid fun (W : World) (hb : Below w.heap.size w W) => eqNodes_true nv nv' f.nodes W (h1.2.2.1.kept hb (Nat.le_refl _)) (h2.2.2.1.kept hb (Nat.le_refl _))
  have H3 := Lib.hid fun (W : World) (hb : Below w.heap.size w W) => eqNames_true cv cv' f.calls W h1.1.2 (h1.2.2.2.kept hb (Nat.le_refl _)) (h2.2.2.2.kept hb (Nat.le_refl _))
  obtain ⟨-, ⟨a1, c1, rfl, -⟩, ⟨-, a2, c2, rfl, -⟩, a3, c3, rfl, -⟩ := h1
  obtain ⟨-, ⟨b1, d1, rfl, -⟩, ⟨-, b2, d2, rfl, -⟩, b3, d3, rfl, -⟩ := h2
  have hA := fun (W : World) (hb : Below (w.heap.size + 2) ((w.alloc (.cells #[.slice a1 rs.length c1, .slice a2 f.nodes.length c2, .slice a3 f.calls.length c3] 27)).alloc (.cells #[.slice b1 rs.length d1, .slice b2 f.nodes.length d2, .slice b3 f.calls.length d3] 27)) W) => (⟨(Bl.new w 27 #[.slice a1 rs.length c1, .slice a2 f.nodes.length c2, .slice a3 f.calls.length c3]).past.below (hb.mono (by simp)), (Bl.new' (by simp)).below (hb.mono (by simp))⟩ : Bl W w.heap.size 27 #[.slice a1 rs.length c1, .slice a2 f.nodes.length c2, .slice a3 f.calls.length c3] ∧ Bl W (w.heap.size + 1) 27 #[.slice b1 rs.length d1, .slice b2 f.nodes.length d2, .slice b3 f.calls.length d3])
  have HA := Lib.hid hA
  clear hA
  go_enter Tryz.func16, Tryz.ntmps16
  go_wp2_with (first
    | (go_at_call 28; (with_reducible refine (H1.out _ (two_new w _ _)).mono ?_); rintro e w1 ⟨rfl, hb⟩; obtain ⟨hx, hy⟩ := HA.out _ (hb.mono (by simp)); have x1 := hx.cell (o := 1) (u := .slice a2 f.nodes.length c2) rfl; have x2 := hx.cell (o := 2) (u := .slice a3 f.calls.length c3) rfl; have y1 := hy.cell (o := 1) (u := .slice b2 f.nodes.length d2) rfl; have y2 := hy.cell (o := 2) (u := .slice b3 f.calls.length d3) rfl; have xl := hx.lt; have yl := hy.lt; have HB1 := Lib.hid ((two_new w _ _).trans (hb.mono (by simp <;> omega))); have HB1' := Lib.hid hb; clear hb hx hy)
    | (go_at_call 29; (with_reducible refine (H2.out _ HB1.out).mono ?_); rintro e w2 ⟨rfl, hb⟩; obtain ⟨hx, hy⟩ := HA.out _ ((HB1'.out.trans (hb.mono HB1'.out.size)).mono (by simp)); have HB2 := Lib.hid (HB1.out.trans (hb.mono HB1.out.size)); clear x1 x2 y1 y2 xl yl; have x2 := hx.cell (o := 2) (u := .slice a3 f.calls.length c3) rfl; have y2 := hy.cell (o := 2) (u := .slice b3 f.calls.length d3) rfl; have xl := hx.lt; have yl := hy.lt; clear hb hx hy)
    | (go_at_call 31; (with_reducible refine (H3.out _ HB2.out).mono ?_); rintro e w3 ⟨rfl, hb⟩; have HB3 := Lib.hid (HB2.out.trans (hb.mono HB2.out.size)); clear hb))
  go_ret
  exact ⟨rfl, HB3.out⟩
set_option maxHeartbeats 2000000 in
set_option maxRecDepth 100000 in
theorem sSame_ne (ra rb : Option Addr) (n c d : Nat) (nv cv nv' cv' : Value) (w : World) (h1 : ∀ W, Below w.heap.size w W → Calls Tryz.prog 28 #[.slice ra n c, .slice rb n d] W fun e w' => e = .returned (.bool false) ∧ Below W.heap.size W w') :
    Calls Tryz.prog 16 #[.agg #[.slice ra n c, nv, cv], .agg #[.slice rb n d, nv', cv']] w fun e w' => e = .returned (.bool false) ∧ Below w.heap.size w w' := by
  have H1 := Lib.hid h1
  clear h1
  go_enter Tryz.func16, Tryz.ntmps16
  go_wp2_with (go_at_call 28; (with_reducible refine (H1.out _ (two_new w _ _)).mono ?_); rintro e w1 ⟨rfl, hb⟩; have HB1 := Lib.hid ((two_new w _ _).trans (hb.mono (by simp <;> omega))); clear hb)
  go_ret
  exact ⟨rfl, HB1.out⟩
end
end Go.Proofs.YtmjnbapkpcfgcaaGreatDoor
namespace Go.Proofs.YtmjnbapkpcfgcaaGreatDoor
section
open Go.RowKit
/-- The blocks of back while a row grows; oc: what its result holds. -/
def Bk (w : World) (ins oc : Array Value) (e : TypeId) (sz : Nat) (v : Value) (n : Nat) (xs : List Value) (wr : World) : Prop := Bl wr w.heap.size 27 ins ∧ Bl wr (w.heap.size + 1) 35 zeroF ∧ Bl wr (w.heap.size + 2) 35 oc ∧ wr.ownsRow w.heap.size e sz v n xs ∧ Below w.heap.size w wr
theorem Bk.step {w wr W w5 : World} {ins oc : Array Value} {e : TypeId} {sz n : Nat} {v v' : Value} {xs elem : List Value} (he : e ≠ 27 ∧ e ≠ 35) (h : Bk w ins oc e sz v n xs wr) (hW : Below wr.heap.size wr W) (hg : W.grownBy w5 v.ownBlock) (hown : w5.ownsRow w.heap.size e sz v' (n + 1) (xs ++ elem)) (o : Nat) :
    Bk w ins (oc.setIfInBounds o v') e sz v' (n + 1) (xs ++ elem) (w5.setCell ⟨w.heap.size + 2, o, none⟩ v') := by
  obtain ⟨h1, h2, h3, h4, h5⟩ := h
  have hr := ownsRow_grown h4 hW
  have kind : ∀ g, v.ownBlock = some g → ∃ c fz, W.heap[g]? = some (.cells c e fz) := fun g hv => Lib.ownsRow_kind hr g hv
  have k1 : ∀ T, T = 27 ∨ T = 35 → ∀ g, v.ownBlock = some g → ∃ c t' fz, W.heap[g]? = some (.cells c t' fz) ∧ T ≠ t' := fun T hT g hv => by
    obtain ⟨c, fz, q⟩ := kind g hv
    exact ⟨c, e, fz, q, by rcases hT with rfl | rfl; exact Ne.symm he.1; exact Ne.symm he.2⟩
  have z3 := (h3.below hW).grown hg (k1 _ (.inr rfl))
  exact ⟨((h1.below hW).grown hg (k1 _ (.inl rfl))).other (by omega) _, ((h2.below hW).grown hg (k1 _ (.inr rfl))).other (by omega) _, z3.put v', ownsRow_setCell_other hown (a := ⟨w.heap.size + 2, o, none⟩) (own_ne hown z3 he.2) _, ((h5.trans (hW.mono h5.size)).grown hg (Nat.le_trans h5.size hW.size) (fun b hb => (hr.lt b hb).1)).setCell (p := ⟨w.heap.size + 2, o, none⟩) (by show w.heap.size ≤ w.heap.size + 2; omega) _⟩
theorem defsC_take {rs : List (List Nat × Nat × Int)} {k : Nat} {x : List Nat × Nat × Int} (h : rs[k]? = some x) : defsC (rs.take (k + 1)) = defsC (rs.take k) ++ [.string (strOf x.1), .int .i64 (x.2.1 : Int), .int .i64 x.2.2] := by
  rw [take_snoc' rs k x h]
  obtain ⟨a, b, c⟩ := x
  exact defsC_snoc _ _ _ _
theorem namesC_take {l : List (List Nat × Nat)} {k : Nat} {x : List Nat × Nat} (h : l[k]? = some x) : namesC (l.take (k + 1)) = namesC (l.take k) ++ [.string (strOf x.1), .int .i64 (x.2 : Int)] := by
  rw [take_snoc' l k x h]
  unfold namesC
  rw [List.flatMap_append]
  rfl
def BackF (w : World) (rs : List (List Nat × Nat × Int)) (f : MF) (nv : Value) (e : Ending) (w' : World) : Prop := ∃ rv cv, e = .returned (.agg #[rv, nv, cv]) ∧ w'.ownsRow w.heap.size 45 3 rv rs.length (defsC rs) ∧ w'.ownsRow w.heap.size 47 2 cv f.calls.length (namesC f.calls) ∧ Below w.heap.size w w'
set_option maxHeartbeats 8000000 in
set_option maxRecDepth 100000 in
theorem back8_any (rv nv cv : Value) (rs : List (List Nat × Nat × Int)) (f : MF) (w : World) (h : FileIn w rv nv cv rs f) (hr : rs.length ≤ 100000000) (hc : f.calls.length ≤ 100000000) :
    Calls Tryz.prog 12 #[.agg #[rv, nv, cv]] w (BackF w rs f nv) := by
  obtain ⟨⟨hm1, hm3⟩, ⟨a1, c1, rfl, -, ha1⟩, ⟨hm2, a2, c2, rfl, -⟩, a3, c3, rfl, -, ha3⟩ := h
  have HA1 := Lib.hid ha1
  have HA3 := Lib.hid ha3
  clear ha1 ha3
  have H0 : Hid (Bk w #[.slice a1 rs.length c1, .slice a2 f.nodes.length c2, .slice a3 f.calls.length c3] #[.slice none 0 0, .slice a2 f.nodes.length c2, .slice none 0 0] 45 3 (.slice none 0 0) 0 (defsC (rs.take 0)) (((w.alloc (.cells #[.slice a1 rs.length c1, .slice a2 f.nodes.length c2, .slice a3 f.calls.length c3] 27)).alloc (.cells zeroF 35)).alloc (.cells #[.slice none 0 0, .slice a2 f.nodes.length c2, .slice none 0 0] 35))) := Lib.hid ⟨(Bl.new w _ _).past.past, (Bl.new' (by simp)).past, Bl.new' (by simp), World.ownsRow_nil _ _ _ _, ((one_new w _).trans ((one_new _ _).mono (by simp))).trans ((one_new _ _).mono (by simp <;> omega))⟩
  go_enter Tryz.func12, Tryz.ntmps12
  go_upto_region 2 with fail
  obtain ⟨W0, hW0⟩ : ∃ W0, ((w.alloc (.cells #[.slice a1 rs.length c1, .slice a2 f.nodes.length c2, .slice a3 f.calls.length c3] 27)).alloc (.cells zeroF 35)).alloc (.cells #[.slice none 0 0, .slice a2 f.nodes.length c2, .slice none 0 0] 35) = W0 := ⟨_, rfl⟩
  rw [hW0] at H0
  unfold zeroF at hW0
  rw [hW0]
  clear hW0
  go_wp2
  go_loopw [4] (fun c wr => ∃ (k : Nat) (ra : Option Addr) (rc : Nat), k ≤ rs.length ∧ c = .int .i64 k ∧ Bk w #[.slice a1 rs.length c1, .slice a2 f.nodes.length c2, .slice a3 f.calls.length c3] #[.slice ra k rc, .slice a2 f.nodes.length c2, .slice none 0 0] 45 3 (.slice ra k rc) k (defsC (rs.take k)) wr) (fun c _ => rs.length - (intOf c).toNat)
  case atStart => exact ⟨0, none, 0, Nat.zero_le _, rfl, H0.out⟩
  case round =>
    obtain ⟨k, ra, rc, hk, rfl, hB⟩ := hrel
    have x0 := hB.1.cell (o := 0) (u := .slice a1 rs.length c1) rfl
    have x2 := hB.1.cell (o := 2) (u := .slice a3 f.calls.length c3) rfl
    have xl0 := hB.1.lt
    have o0 := hB.2.2.1.cell (o := 0) (u := .slice ra k rc) rfl
    have o2 := hB.2.2.1.cell (o := 2) (u := .slice none 0 0) rfl
    have of0 := hB.2.2.1.free
    have ol := hB.2.2.1.lt
    have HBK := Lib.hid hB
    have HOUT := Lib.hid hB.2.2.1
    have HO := Lib.hid hB.2.2.2.1
    have hbs := hB.2.2.2.2.size
    have HBW := Lib.hid hB.2.2.2.2
    clear hB
    by_cases hlt : k < rs.length
    · obtain ⟨x, hx⟩ : ∃ x, rs[k]? = some x := ⟨_, List.getElem?_eq_getElem hlt⟩
      rcases HA1.out with hz | ⟨ab, ao, rfl, hca⟩
      · rw [hz] at hlt; exact absurd hlt (Nat.not_lt_zero _)
      obtain ⟨e0, e1, e2, e3⟩ := def_cells hca hx HBW.out
      have k1 : (k : Int) < (rs.length : Int) := by omega
      have HX := Lib.hid (defsC_take hx)
      obtain ⟨ie, hie, hze0, hze1, hze2⟩ := info_parts infoDef
      clear hca hx
      go_wp2
      go_region_law (refine step_append_own (by rfl) _ _ 32 (by rfl) w.heap.size 45 ie _ 3 32 Tryz.underlying32 hie hze0 hze1 hze2 (by rfl) (by decide) (.slice ra k rc) k _ (by simp [Act.eval]) (by refine ownsRow_grown HO.out ?_; repeat (first | exact Below.refl _ _ | refine Below.drew ?_ | refine below_alloc' ?_ rfl _)) _ 1 1 [.string (strOf x.1), .int .i64 (x.2.1 : Int), .int .i64 x.2.2] (by simp [Act.eval]; rfl) (by rfl) (by refine Bl.news (t := 45) ?_; repeat (first | (refine Bl.new' ?_; simp; done) | refine Bl.drew ?_ | refine Bl.past ?_)) (by simp [Value.oneCell']) (by unfold maxLen; omega) (by omega) (by simp; omega) ?_; intro a5 c5 w5 hown5 hgrow5 hat5; have hbw5 : Hid (Below wr.heap.size wr (wr.alloc (.cells #[.string (strOf x.1), .int .i64 (x.2.1 : Int), .int .i64 x.2.2] 45)).drew) := Lib.hid (Below.drew (below_alloc' (Below.refl _ _) rfl _)); have hg5 := (HOUT.out.below hbw5.out).grown hgrow5 (fun g e => by obtain ⟨c, fz, hc⟩ := Lib.ownsRow_kind (ownsRow_grown HO.out hbw5.out) g e; exact ⟨c, 45, fz, hc, by decide⟩); have x10 := hg5.cell (o := 0) rfl; have xf := hg5.free; have xl := hg5.lt; have HO5 := Lib.hid hown5; have HG5 := Lib.hid hgrow5; clear hown5 hgrow5 hat5 hg5)
      all_goals
        have HK1 := Lib.hid (HBK.out.step (by decide) hbw5.out HG5.out HO5.out 0)
        rw [← HX.out] at HK1
        go_wp2
        go_roundw
        case rel => exact ⟨k + 1, a5, c5, hlt, by go_num, HK1.out⟩
        case measure => simp [intOf]; omega
    · obtain rfl : k = rs.length := by omega
      have k1 : ¬ (rs.length : Int) < (rs.length : Int) := by omega
      have H2 : Hid (Bk w #[.slice a1 rs.length c1, .slice a2 f.nodes.length c2, .slice a3 f.calls.length c3] #[.slice ra rs.length rc, .slice a2 f.nodes.length c2, .slice none 0 0] 47 2 (.slice none 0 0) 0 (namesC (f.calls.take 0)) wr) := Lib.hid ⟨HBK.out.1, HBK.out.2.1, HBK.out.2.2.1, World.ownsRow_nil _ _ _ _, HBK.out.2.2.2.2⟩
      have HR : Hid (wr.ownsRow w.heap.size 45 3 (.slice ra rs.length rc) rs.length (defsC rs)) := Lib.hid (by have := HO.out; rw [List.take_length] at this; exact this)
      clear HBK HO HOUT H0 hlt hk
      go_wp2
      go_loopw [5] (fun c wq => ∃ (k : Nat) (ca : Option Addr) (cc : Nat), k ≤ f.calls.length ∧ c = .int .i64 k ∧ Bk w #[.slice a1 rs.length c1, .slice a2 f.nodes.length c2, .slice a3 f.calls.length c3] #[.slice ra rs.length rc, .slice a2 f.nodes.length c2, .slice ca k cc] 47 2 (.slice ca k cc) k (namesC (f.calls.take k)) wq ∧ wq.ownsRow w.heap.size 45 3 (.slice ra rs.length rc) rs.length (defsC rs)) (fun c _ => f.calls.length - (intOf c).toNat)
      case atStart => exact ⟨0, none, 0, Nat.zero_le _, rfl, H2.out, HR.out⟩
      case round =>
        clear x0 x2 xl0 o0 o2 of0 ol hbs k1 HBW H2 HR
        obtain ⟨k, ra', rc', hk, rfl, hB, hR⟩ := hrel
        obtain ⟨rb, hrb⟩ : ∃ y, ra = y := ⟨_, rfl⟩
        obtain ⟨rd, hrd⟩ : ∃ y, rc = y := ⟨_, rfl⟩
        rw [hrb, hrd] at hB hR ⊢
        clear hrb hrd
        obtain ⟨ra, rfl⟩ : ∃ y, y = ra' := ⟨_, rfl⟩
        obtain ⟨rc, rfl⟩ : ∃ y, y = rc' := ⟨_, rfl⟩
        have x2 := hB.1.cell (o := 2) (u := .slice a3 f.calls.length c3) rfl
        have xl0 := hB.1.lt
        have o0 := hB.2.2.1.cell (o := 0) (u := .slice rb rs.length rd) rfl
        have o1 := hB.2.2.1.cell (o := 1) (u := .slice a2 f.nodes.length c2) rfl
        have o2 := hB.2.2.1.cell (o := 2) (u := .slice ra k rc) rfl
        have of0 := hB.2.2.1.free
        have ol := hB.2.2.1.lt
        have HBK := Lib.hid hB
        have HOUT := Lib.hid hB.2.2.1
        have HO := Lib.hid hB.2.2.2.1
        have hbs := hB.2.2.2.2.size
        have HBW := Lib.hid hB.2.2.2.2
        have HR := Lib.hid hR
        clear hB hR
        by_cases hlt : k < f.calls.length
        · obtain ⟨x, hx⟩ : ∃ x, f.calls[k]? = some x := ⟨_, List.getElem?_eq_getElem hlt⟩
          rcases HA3.out with hz | ⟨ab, ao, rfl, hca⟩
          · rw [hz] at hlt; exact absurd hlt (Nat.not_lt_zero _)
          obtain ⟨e0, e1, e3⟩ := name_cells hca hx HBW.out
          have k1 : (k : Int) < (f.calls.length : Int) := by omega
          have HX := Lib.hid (namesC_take hx)
          obtain ⟨ie, hie, hze0, hze1, hze2⟩ := info_parts infoName
          clear hca hx
          go_wp2
          go_region_law (refine step_append_own (by rfl) _ _ 33 (by rfl) w.heap.size 47 ie _ 2 24 Tryz.underlying33 hie hze0 hze1 hze2 (by rfl) (by decide) (.slice ra k rc) k _ (by simp [Act.eval]) (by refine ownsRow_grown HO.out ?_; repeat (first | exact Below.refl _ _ | refine Below.drew ?_ | refine below_alloc' ?_ rfl _)) _ 1 1 [.string (strOf x.1), .int .i64 (x.2 : Int)] (by simp [Act.eval]; rfl) (by rfl) (by refine Bl.news (t := 47) ?_; repeat (first | (refine Bl.new' ?_; simp; done) | refine Bl.drew ?_ | refine Bl.past ?_)) (by simp [Value.oneCell']) (by unfold maxLen; omega) (by omega) (by simp; omega) ?_; intro a5 c5 w5 hown5 hgrow5 hat5; have hbw5 : Hid (Below wr.heap.size wr (wr.alloc (.cells #[.string (strOf x.1), .int .i64 (x.2 : Int)] 47)).drew) := Lib.hid (Below.drew (below_alloc' (Below.refl _ _) rfl _)); have hg5 := (HOUT.out.below hbw5.out).grown hgrow5 (fun g e => by obtain ⟨c, fz, hc⟩ := Lib.ownsRow_kind (ownsRow_grown HO.out hbw5.out) g e; exact ⟨c, 47, fz, hc, by decide⟩); have x10 := hg5.cell (o := 2) rfl; have xf := hg5.free; have xl := hg5.lt; have HO5 := Lib.hid hown5; have HG5 := Lib.hid hgrow5; clear hown5 hgrow5 hat5 hg5)
          all_goals
            have HK1 := Lib.hid (HBK.out.step (by decide) hbw5.out HG5.out HO5.out 2)
            rw [← HX.out] at HK1
            have HR5 : Hid (w5.ownsRow w.heap.size 45 3 (.slice rb rs.length rd) rs.length (defsC rs)) := Lib.hid (own_kept' (ownsRow_grown HR.out hbw5.out) HG5.out (fun g hv => Lib.ownsRow_kind (ownsRow_grown HO.out hbw5.out) g hv) (by decide))
            have HR6 : Hid ((w5.setCell ⟨w.heap.size + 2, 2, none⟩ (.slice a5 (k + 1) c5)).ownsRow w.heap.size 45 3 (.slice rb rs.length rd) rs.length (defsC rs)) := Lib.hid (ownsRow_setCell_other HR5.out (a := ⟨w.heap.size + 2, 2, none⟩) (by
              have hz : Bl w5 (w.heap.size + 2) 35 _ := (HOUT.out.below hbw5.out).grown HG5.out (fun g e => by obtain ⟨c, fz, hc⟩ := Lib.ownsRow_kind (ownsRow_grown HO.out hbw5.out) g e; exact ⟨c, 47, fz, hc, by decide⟩)
              exact own_ne HR5.out hz (by decide)) _)
            go_wp2
            go_roundw
            case rel => exact ⟨k + 1, a5, c5, hlt, by go_num, HK1.out, HR6.out⟩
            case measure => simp [intOf]; omega
        · obtain rfl : k = f.calls.length := by omega
          have k1 : ¬ (f.calls.length : Int) < (f.calls.length : Int) := by omega
          have HZ := Lib.hid HBK.out.2.1
          unfold zeroF at HZ
          have z0 := HZ.out.cell (o := 0) (u := .slice none 0 0) rfl
          have z1 := HZ.out.cell (o := 1) (u := .slice none 0 0) rfl
          have z2 := HZ.out.cell (o := 2) (u := .slice none 0 0) rfl
          have zf := HZ.out.free
          go_wp2
          have q0 : (((wr.setCell ⟨w.heap.size + 1, 0, none⟩ (.slice rb rs.length rd)).setCell ⟨w.heap.size + 1, 1, none⟩ (.slice a2 f.nodes.length c2)).setCell ⟨w.heap.size + 1, 2, none⟩ (.slice ra f.calls.length rc)).cell? ⟨w.heap.size + 1, 0, none⟩ = some (.slice rb rs.length rd) := by rw [cso (by decide), cso (by decide)]; exact css z0
          have q1 : (((wr.setCell ⟨w.heap.size + 1, 0, none⟩ (.slice rb rs.length rd)).setCell ⟨w.heap.size + 1, 1, none⟩ (.slice a2 f.nodes.length c2)).setCell ⟨w.heap.size + 1, 2, none⟩ (.slice ra f.calls.length rc)).cell? ⟨w.heap.size + 1, 1, none⟩ = some (.slice a2 f.nodes.length c2) := by rw [cso (by decide)]; exact css (by rw [cso (by decide)]; exact z1)
          have q2 : (((wr.setCell ⟨w.heap.size + 1, 0, none⟩ (.slice rb rs.length rd)).setCell ⟨w.heap.size + 1, 1, none⟩ (.slice a2 f.nodes.length c2)).setCell ⟨w.heap.size + 1, 2, none⟩ (.slice ra f.calls.length rc)).cell? ⟨w.heap.size + 1, 2, none⟩ = some (.slice ra f.calls.length rc) := css (by rw [cso (by decide), cso (by decide)]; exact z2)
          have hz := HZ.out
          have st : ∀ {T : TypeId} {sz m : Nat} {v : Value} {xs : List Value}, wr.ownsRow w.heap.size T sz v m xs → T ≠ 35 → (((wr.setCell ⟨w.heap.size + 1, 0, none⟩ (.slice rb rs.length rd)).setCell ⟨w.heap.size + 1, 1, none⟩ (.slice a2 f.nodes.length c2)).setCell ⟨w.heap.size + 1, 2, none⟩ (.slice ra f.calls.length rc)).ownsRow w.heap.size T sz v m xs := fun h ht =>
            ownsRow_setCell_other (ownsRow_setCell_other (ownsRow_setCell_other h (a := ⟨w.heap.size + 1, 0, none⟩) (own_ne h hz ht) _) (a := ⟨w.heap.size + 1, 1, none⟩) (own_ne h hz ht) _) (a := ⟨w.heap.size + 1, 2, none⟩) (own_ne h hz ht) _
          have hN := HO.out
          rw [List.take_length] at hN
          have hb8 := ((HBW.out.setCell (p := ⟨w.heap.size + 1, 0, none⟩) (Nat.le_succ _) (.slice rb rs.length rd)).setCell (p := ⟨w.heap.size + 1, 1, none⟩) (Nat.le_succ _) (.slice a2 f.nodes.length c2)).setCell (p := ⟨w.heap.size + 1, 2, none⟩) (Nat.le_succ _) (.slice ra f.calls.length rc)
          have hN8 := st hN (by decide)
          have hR8 := st HR.out (by decide)
          clear z0 z1 z2 zf o0 o1 o2 of0 x2
          refine bodyPost_ret (v := .agg #[.slice rb rs.length rd, .slice a2 f.nodes.length c2, .slice ra f.calls.length rc]) (by simp [results, Tryz.results12, go_sem, q0, q1, q2]) rfl ?_
          exact ⟨_, _, rfl, hR8, hN8, hb8⟩
end
end Go.Proofs.YtmjnbapkpcfgcaaGreatDoor
