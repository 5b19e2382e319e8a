/- '!=' between two items of the reference's type; SameItems; Few; the law's items. -/
import Derived.Test.YtnebdnonkefloaaBuildOwn
import Derived.Test.YtnebdnonkefloaaGramCmp
namespace Go.Proofs.Ytnebdnonkefloaa
open Go.RowKit
theorem bpk0 (x0 x1 x2 x3 x4 x5 x6 : Value) (w : World) : (Go.part 3 #[x0, x1, x2, x3, x4, x5, x6] 0).run Try.prog w = .ok x0 w := by kernel_rfl
theorem bpk1 (x0 x1 x2 x3 x4 x5 x6 : Value) (w : World) : (Go.part 3 #[x0, x1, x2, x3, x4, x5, x6] 1).run Try.prog w = .ok x1 w := by kernel_rfl
theorem bpk2 (x0 x1 x2 x3 x4 x5 x6 : Value) (w : World) : (Go.part 3 #[x0, x1, x2, x3, x4, x5, x6] 2).run Try.prog w = .ok x2 w := by kernel_rfl
theorem bpk3 (x0 x1 x2 x3 x4 x5 x6 : Value) (w : World) : (Go.part 30 #[x0, x1, x2, x3, x4, x5, x6] 3).run Try.prog w = .ok (.agg #[x3, x4, x5, x6]) w := by kernel_rfl
theorem bflds : (Try.prog.fieldsOf 32).toList.map (fun f => (f.name, f.type, f.offset)) = [("Op", 3, 0), ("Kids", 3, 1), ("Rule", 3, 2), ("Set", 30, 3)] := by kernel_rfl
def piEq (x y : PI) : Bool := x.op == y.op && (x.kids == y.kids && (x.rule == y.rule && (x.s0 == y.s0 && (x.s1 == y.s1 && (x.s2 == y.s2 && x.s3 == y.s3)))))
theorem piEq_is (x y : PI) : piEq x y = decide (x = y) := by
  unfold piEq
  have h := PI.eq_iff x y
  by_cases e : x = y
  · subst e; simp
  · rw [decide_eq_false e]
    by_cases h1 : x.op = y.op <;> by_cases h2 : x.kids = y.kids <;> by_cases h3 : x.rule = y.rule <;> by_cases h4 : x.s0 = y.s0 <;> by_cases h5 : x.s1 = y.s1 <;> by_cases h6 : x.s2 = y.s2 <;> by_cases h7 : x.s3 = y.s3 <;> simp_all
theorem eqIn_rItem (x y : PI) (w : World) : (Op.equalIn 10000 32 (itemV x) (itemV y)).run Try.prog w = .ok (piEq x y) w := by
  have e1 := run_equalIn_int (P := Try.prog) w 9998 3 .i64 .i64 x.op y.op Try.underlying3
  have e2 := run_equalIn_int (P := Try.prog) w 9998 3 .i64 .i64 x.kids y.kids Try.underlying3
  have e3 := run_equalIn_int (P := Try.prog) w 9998 3 .i64 .i64 x.rule y.rule Try.underlying3
  have e4 : (Op.equalIn 9999 30 (.agg #[.int .u64 x.s0, .int .u64 x.s1, .int .u64 x.s2, .int .u64 x.s3]) (.agg #[.int .u64 y.s0, .int .u64 y.s1, .int .u64 y.s2, .int .u64 y.s3])).run Try.prog w = _ := geq_set 9997 x.s0 x.s1 x.s2 x.s3 y.s0 y.s1 y.s2 y.s3 w
  unfold itemV piEq
  rw [run_equalIn_struct w 9999 32 _ _ (by kernel_rfl) (by kernel_rfl)]
  have hf := bflds
  revert hf
  generalize (Try.prog.fieldsOf 32).toList = fs
  intro hf
  have hl : fs.length = 4 := by simpa using congrArg List.length hf
  obtain ⟨f, g, h, i, rfl⟩ : ∃ f g h i, fs = [f, g, h, i] := by
    match fs, hl with
    | [f, g, h, i], _ => exact ⟨f, g, h, i, rfl⟩
  simp only [List.map_cons, List.map_nil, List.cons.injEq, Prod.mk.injEq, and_true] at hf
  obtain ⟨⟨n1, t1, o1⟩, ⟨n2, t2, o2⟩, ⟨n3, t3, o3⟩, n4, t4, o4⟩ := hf
  have d1 : f.name ≠ "_" := by rw [n1]; decide
  have d2 : g.name ≠ "_" := by rw [n2]; decide
  have d3 : h.name ≠ "_" := by rw [n3]; decide
  have d4 : i.name ≠ "_" := by rw [n4]; decide
  simp only [Op.eqFields, d1, d2, d3, d4, ne_eq, not_false_eq_true, if_true, t1, t2, t3, t4, o1, o2, o3, o4, Sem.run_bind, bpk0, Result.andThen_ok, e1]
  generalize (x.op == y.op) = r1
  generalize (x.kids == y.kids) = r2 at e2 ⊢
  generalize (x.rule == y.rule) = r3 at e3 ⊢
  generalize (x.s0 == y.s0 && (x.s1 == y.s1 && (x.s2 == y.s2 && x.s3 == y.s3))) = r4 at e4 ⊢
  cases r1
  · simp
  · simp only [Bool.not_true, Bool.false_eq_true, if_false, Sem.run_bind, bpk1, Result.andThen_ok, e2, Bool.true_and]
    cases r2
    · simp
    · simp only [Bool.not_true, Bool.false_eq_true, if_false, Sem.run_bind, bpk2, Result.andThen_ok, e3, Bool.true_and]
      cases r3
      · simp
      · simp only [Bool.not_true, Bool.false_eq_true, if_false, Sem.run_bind, bpk3, Result.andThen_ok, e4, Bool.true_and]
        cases r4 <;> simp
theorem neq_rItem (x y : PI) (w : World) : (binOp .neq 32 (itemV x) (itemV y)).run Try.prog w = .ok (.bool (!(piEq x y))) w := by
  have h : (Op.equal 32 (itemV x) (itemV y)).run Try.prog w = _ := eqIn_rItem x y w
  unfold itemV at h ⊢
  simp [binOp, h]
theorem gt_rItem : Try.prog.eqGuardType Try.prog.depth 32 = false := by kernel_rfl
set_option maxHeartbeats 2000000 in
theorem sameItems_any (u v : Value) (l m : List PI) (w : World) (hl : l.length ≤ 1000000) (hu : ItemsAt w u l) (hv : ItemsAt w v m) :
    Calls Try.prog 24 #[u, v] w fun e w' => e = .returned (.bool (decide (l = m))) ∧ ∃ q, w' = w.drewN q := by
  obtain ⟨ua, uc, rfl⟩ := hu.slice
  obtain ⟨va, vc, rfl⟩ := hv.slice
  have hml := hv.1
  unfold maxLen at hml
  have HU := Lib.hid hu
  have HV := Lib.hid hv
  clear hu hv
  by_cases hlen : l.length = m.length
  · have q1 : ((l.length : Int) != (m.length : Int)) = false := by rw [hlen]; simp
    go_enter Try.func24, Try.ntmps24
    go_wp2
    go_loopw [5] (fun c wr => ∃ (k q : Nat), k ≤ l.length ∧ c = .int .i64 k ∧ wr = w.drewN q ∧ l.take k = m.take k) (fun c _ => l.length - (intOf c).toNat)
    case atStart => exact ⟨0, 0, Nat.zero_le _, rfl, rfl, rfl⟩
    case round =>
      obtain ⟨k, q, hk, rfl, rfl, hq⟩ := hrel
      have HQ := Lib.hid hq
      clear hq
      by_cases hlt : k < l.length
      · obtain ⟨x, hx⟩ : ∃ x, l[k]? = some x := ⟨_, List.getElem?_eq_getElem hlt⟩
        obtain ⟨y, hy⟩ : ∃ y, m[k]? = some y := ⟨_, List.getElem?_eq_getElem (by omega)⟩
        obtain ⟨ub, uo, rfl, c0, c1, c2, c3, c4, c5, c6⟩ := HU.out.at hx
        obtain ⟨vb, vo, rfl, d0, d1, d2, d3, d4, d5, d6⟩ := HV.out.at hy
        have hlm : k < m.length := by omega
        have k1 : (k : Int) < (l.length : Int) := by omega
        have k2 : (k : Int) < (m.length : Int) := by omega
        have HX := Lib.hid hx
        have HY := Lib.hid hy
        have HL := Lib.hid hlen
        have qg := gt_rItem
        have q3 : ∀ w, (binOp .neq 32 (itemV x) (itemV y)).run Try.prog w = .ok (.bool (!(decide (x = y)))) w := fun w => by rw [neq_rItem, piEq_is]
        unfold itemV at q3
        clear hx hy hlen
        by_cases hxy : x = y
        · have HXY := Lib.hid hxy
          have q2 : decide (x = y) = true := decide_eq_true hxy
          rw [q2] at q3
          clear hxy q2
          go_wp2
          go_quiet (fail)
          go_wp2
          go_roundw
          case rel => exact ⟨k + 1, _, by omega, by go_num, rfl, by rw [take_snoc' l k x HX.out, take_snoc' m k y HY.out, HQ.out, HXY.out]⟩
          case measure => simp [intOf]; omega
        · have q2 : decide (x = y) = false := decide_eq_false hxy
          rw [q2] at q3
          have HN : Hid (decide (l = m) = false) := decN fun e => by
            have h1 := HX.out
            rw [e, HY.out] at h1
            exact hxy (Option.some.inj h1).symm
          clear hxy q2
          go_wp2
          go_quiet (fail)
          go_wp2
          go_ret
          exact ⟨ret_bool HN.out.symm, _, World.drewN_drewN _ _ _⟩
      · have HN : Hid (decide (l = m) = true) := decY (by
          have hk' : k = l.length := by omega
          have h1 := HQ.out
          rw [List.take_of_length_le (by omega), List.take_of_length_le (by omega)] at h1
          exact h1)
        have k1 : ¬ (k : Int) < (l.length : Int) := by omega
        go_wp2
        go_ret
        exact ⟨ret_bool HN.out.symm, _, rfl⟩
  · have q1 : ((l.length : Int) != (m.length : Int)) = true := ibne_yes (by omega)
    have HN : Hid (decide (l = m) = false) := decN fun e => hlen (by rw [e])
    go_enter Try.func24, Try.ntmps24
    go_wp2
    go_ret
    exact ⟨ret_bool HN.out.symm, 0, rfl⟩
theorem infoRItem : (Try.prog.info? 32).map (fun i => (i.zero, i.size, i.bytes)) = some (some (.agg #[.int .i64 0, .int .i64 0, .int .i64 0, .int .u64 0, .int .u64 0, .int .u64 0, .int .u64 0]), 7, 56) := by kernel_rfl
theorem infoBItem : (Try.prog.info? 64).map (fun i => (i.zero, i.size, i.bytes)) = some (some (.agg #[.int .i64 0, .int .i64 0, .int .i64 0, .int .u64 0, .int .u64 0, .int .u64 0, .int .u64 0]), 7, 56) := by kernel_rfl
set_option maxHeartbeats 4000000 in
set_option maxRecDepth 100000 in
/-- The law's items: the items in a row of the call's own. -/
theorem lItems_any (v : Value) (l : List PI) (w : World) (hl : l.length ≤ 1000000) (hv : ItemsAt w v l) :
    Calls Try.prog 25 #[v] w fun e w' => ∃ u, e = .returned u ∧ w'.ownsRow w.heap.size 32 7 u l.length (itemsC l) ∧ Below w.heap.size w w' := by
  obtain ⟨va, vc, rfl⟩ := hv.slice
  obtain ⟨ii, hii, hz0, hz1, hz2⟩ := info_parts infoRItem
  have HV := Lib.hid hv
  clear hv
  go_enter Try.func25, Try.ntmps25
  go_wp2
  go_loopw [4, 3] (fun c u wr => ∃ k : Nat, k ≤ l.length ∧ c = .int .i64 k ∧ wr.ownsRow w.heap.size 32 7 u k (itemsC (l.take k)) ∧ Below w.heap.size w wr) (fun c _ _ => l.length - (intOf c).toNat)
  case atStart => exact ⟨0, Nat.zero_le _, rfl, World.ownsRow_nil _ _ _ _, Below.refl _ _⟩
  case round =>
    obtain ⟨k, hk, rfl, ho, hb⟩ := hrel
    obtain ⟨ua, uc, rfl⟩ := own_slice' ho
    by_cases hlt : k < l.length
    · obtain ⟨x, hx⟩ : ∃ x, l[k]? = some x := ⟨_, List.getElem?_eq_getElem hlt⟩
      obtain ⟨b, off, rfl, c0, c1, c2, c3, c4, c5, c6⟩ := (HV.out.kept hb (Nat.le_refl _)).at hx
      have k1 : (k : Int) < (l.length : Int) := by omega
      have HX := Lib.hid hx
      have HO := Lib.hid ho
      have HB := Lib.hid hb
      have hbs := hb.size
      clear hx ho hb
      go_wp2_with (at_builtin; refine wpList_append_own _ rfl _ _ 25 rfl w.heap.size 32 ii _ 7 56 Try.underlying25 hii hz0 hz1 hz2 rfl (by decide) _ k _ rfl (ownsRow_grown HO.out (one_new wr _)) ⟨wr.heap.size, 0, none⟩ 1 1 (itemC x) rfl rfl (cell_row_one wr _ _) (by simp [itemC, Value.oneCell']) (by unfold maxLen; omega) (by omega) (by simp; omega) ?_; intro v5 w5 hown' hgrow _; have HO5 := Lib.hid hown'; have HB5 := Lib.hid ((HB.out.trans ((one_new wr _).mono hbs)).grown hgrow (Nat.le_trans hbs (one_new wr _).size) (fun g e => (HO.out.lt g e).1)); clear hown' hgrow)
      go_roundw
      case rel => exact ⟨k + 1, by omega, by go_num, by have := HO5.out; rw [take_snoc' l k x HX.out, itemsC_append]; simpa [itemsC] using this, HB5.out⟩
      case measure => simp [intOf]; omega
    · obtain rfl : k = l.length := by omega
      have k1 : ¬ (l.length : Int) < (l.length : Int) := by omega
      rw [List.take_length] at ho
      have HO := Lib.hid ho
      have HB := Lib.hid hb
      clear ho hb
      go_wp2
      go_ret
      exact ⟨_, rfl, HO.out, HB.out⟩
end Go.Proofs.Ytnebdnonkefloaa
