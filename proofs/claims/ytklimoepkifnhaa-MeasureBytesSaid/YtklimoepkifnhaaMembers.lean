/- The contract of byteset.members: the iterator hands over the members of the set, in ascending order. -/
import Derived.Test.YtklimoepkifnhaaSetEq
import Derived.RangeFuncBox
import Derived.RangeFuncNested
import Derived.RangeFuncBound
import Derived.RangeFuncCalls
import Derived.RangeFuncLeaves
import Derived.Shelf.Abstract
import Derived.Shelf.RegionOpen
import Derived.OwnWalkIn
import Derived.TacticsInMore
import Derived.LoopNIn
import Derived.LoopIn
namespace Go.Proofs.Ytklimoepkifnhaa
open Go.RowKit Go.Shelf
attribute [local go_sem] Oper.semAt_some
/-- the members of f below k, in ascending order -/
def memb (f : Nat → Bool) (k : Nat) : List Nat := (List.range k).filter f
theorem memb_succ (f : Nat → Bool) (k : Nat) : memb f (k + 1) = memb f k ++ if f k then [k] else [] := by
  unfold memb; rw [List.range_succ, List.filter_append]; cases h : f k <;> simp [h]
theorem memb_len (f : Nat → Bool) (k : Nat) : (memb f k).length ≤ k := by
  unfold memb; have := List.length_filter_le f (List.range k); simpa using this
abbrev By := { x : Nat // x < 256 }
def encB (x : By) : Array Value := #[.int .u8 (x.1 : Int)]
/-- between two rounds the block of the iterator's own set is kept -/
def KeepB (Bs : Nat) (A B : World) : Prop := A.heap.size ≤ B.heap.size ∧ B.heap[Bs]? = A.heap[Bs]?
theorem KeepB.refl (Bs : Nat) (A : World) : KeepB Bs A A := ⟨Nat.le_refl _, rfl⟩
theorem KeepB.trans {Bs : Nat} {A B C : World} (h : KeepB Bs A B) (h' : KeepB Bs B C) : KeepB Bs A C := ⟨Nat.le_trans h.1 h'.1, h'.2.trans h.2⟩
theorem SetAt.keepB {f : Nat → Bool} {Bs : Nat} {A B : World} (h : SetAt f Bs A) (hk : KeepB Bs A B) : SetAt f Bs B := fun j hj =>
  ⟨(World.cell?_of_block (a := ⟨Bs, j, none⟩) hk.2).trans (h j hj).1, (World.frozen?_of_block (a := ⟨Bs, j, none⟩) hk.2).trans (h j hj).2⟩
theorem SetAt.lt {f : Nat → Bool} {Bs : Nat} {A : World} (h : SetAt f Bs A) : Bs < A.heap.size := block_lt_of_cell (h 0 (by omega)).1
theorem keepB_put {Bs : Nat} {w : World} (hBs : Bs < w.heap.size) (W : World) (l : Nat) (o o' : Obj) (hl : w.heap.size ≤ l) (_ : W.heap[l]? = some o) (_ : o.isCells = false) (_ : o.isWalk = false) : KeepB Bs W (W.putObj l o') :=
  ⟨by simp, World.putObj_heap_other (by omega)⟩
theorem has_in (f : Nat → Bool) (k : Nat) (b : Bool) (hb : f k = b) (n : Nat) (w : World) (hk : k < 256) :
    CallsIn Fence.wide n Try.prog 50 #[.agg #[.int .u64 (setW f 0), .int .u64 (setW f 1), .int .u64 (setW f 2), .int .u64 (setW f 3)], .int .u8 (k : Int)] w fun e w' => e = .returned (.bool b) ∧ Below w.heap.size w w' := by
  subst hb
  have h := has_any f (k : Int) w (by omega) (by omega)
  rw [Int.toNat_natCast] at h
  exact callsIn_wide.2 h
theorem setW_zero {f : Nat → Bool} {k : Nat} (h : setW f k = 0) (j : Nat) (hj : j < 64) : f (64 * k + j) = false := by
  rw [← setW_bit f k j hj, h]; simp
theorem memb_none {f : Nat → Bool} (h : (setW f 0 == 0 && (setW f 1 == 0 && (setW f 2 == 0 && setW f 3 == 0))) = true) : memb f 256 = [] := by
  simp only [Bool.and_eq_true, beq_iff_eq] at h
  obtain ⟨h0, h1, h2, h3⟩ := h
  unfold memb
  rw [List.filter_eq_nil_iff]
  intro i hi
  have hi := List.mem_range.1 hi
  have e : i = 64 * (i / 64) + i % 64 := by omega
  have hk : i / 64 = 0 ∨ i / 64 = 1 ∨ i / 64 = 2 ∨ i / 64 = 3 := by omega
  have hz : setW f (i / 64) = 0 := by rcases hk with h | h | h | h <;> rw [h] <;> assumption
  rw [e, setW_zero hz _ (by omega)]; simp
set_option maxHeartbeats 1000000 in
set_option maxRecDepth 100000 in
theorem members0_in (n : Nat) (l Bs : Nat) (f : Nat → Bool) (W : World) (hS : SetAt f Bs W) (hr : (setW f 0 == 0 && (setW f 1 == 0 && (setW f 2 == 0 && setW f 3 == 0))) = true) :
    CallsIn Fence.wide n Try.prog 49 #[.func (.yield l) #[] #[], .pointer (some ⟨Bs, 0, none⟩)] W fun e W' => (∃ v, e = .returned v) ∧ W' = W := by
  obtain ⟨⟨c0, c1, c2, c3⟩, -⟩ := hS.four
  have he := fun w => eql_set (setW f 0) (setW f 1) (setW f 2) (setW f 3) 0 0 0 0 w
  rw [hr] at he
  clear hr hS
  refine callsIn_of_wp Try.func49 rfl trivial ?_ rfl
  simp only [Try.ntmps49, List.size_toArray, List.length_cons, List.length_nil, Nat.reduceAdd, Nat.reduceSub, Array.replicate_succ, Array.replicate_zero, List.push_toArray, List.append_toArray, List.nil_append, List.cons_append]
  gi_wp2_with (with_reducible refine wpListIn_agg rfl BinOp.eql 35 _ _ _ rfl rfl _ _ rfl rfl rfl gt_set _ (he _) ?_)
  refine bodyPost_ret (results_none rfl _ _ _) rfl ?_
  exact ⟨⟨_, rfl⟩, rfl⟩
set_option maxHeartbeats 1000000 in
set_option maxRecDepth 100000 in
theorem members1_in (n : Nat) (hn : 1 ≤ n) (l Bs : Nat) (f : Nat → Bool) (J Jx : List By → World → Prop)
    (hY : ∀ pre x W, J pre W → pre.length < 256 → YieldAt Fence.wide (n - 1) Try.prog l (encB x) W fun e W' =>
      (e = .returned (.bool true) ∧ J (pre ++ [x]) W' ∧ KeepB Bs W W') ∨ (e = .returned (.bool false) ∧ Jx (pre ++ [x]) W'))
    (W : World) (hJ : AbidesFrom W.heap.size J) (hS : SetAt f Bs W) (h0 : J [] W) :
    CallsIn Fence.wide n Try.prog 49 #[.func (.yield l) #[] #[], .pointer (some ⟨Bs, 0, none⟩)] W fun e W' => (∃ v, e = .returned v) ∧
      ((∃ ys : List By, ys.map (·.1) = memb f 256 ∧ J ys W') ∨ (∃ pre : List By, True ∧ Jx pre W')) := by
  by_cases hr : (setW f 0 == 0 && (setW f 1 == 0 && (setW f 2 == 0 && setW f 3 == 0))) = true
  · refine (members0_in n l Bs f W hS hr).mono ?_
    rintro e W' ⟨hv, rfl⟩
    exact ⟨hv, .inl ⟨[], (memb_none hr).symm, h0⟩⟩
  rw [Bool.not_eq_true] at hr
  obtain ⟨⟨c0, c1, c2, c3⟩, -⟩ := hS.four
  have he := fun w => eql_set (setW f 0) (setW f 1) (setW f 2) (setW f 3) 0 0 0 0 w
  rw [hr] at he
  clear hr
  have HJ := Lib.hid hJ
  have HY := Lib.hid hY
  clear hJ hY
  refine callsIn_of_wp Try.func49 rfl trivial ?_ rfl
  simp only [Try.ntmps49, List.size_toArray, List.length_cons, List.length_nil, Nat.reduceAdd, Nat.reduceSub, Array.replicate_succ, Array.replicate_zero, List.push_toArray, List.append_toArray, List.nil_append, List.cons_append]
  gi_wp2_with (with_reducible refine wpListIn_agg rfl BinOp.eql 35 _ _ _ rfl rfl _ _ rfl rfl rfl gt_set _ (he _) ?_)
  clear he c0 c1 c2 c3
  gi_loopw [7] (fun c wr => ∃ (k : Nat) (pre : List By), k ≤ 256 ∧ c = .int .i64 k ∧ pre.map (·.1) = memb f k ∧ J pre wr ∧ SetAt f Bs wr ∧ W.heap.size ≤ wr.heap.size)
    (fun c _ => 256 - (intOf c).toNat)
  case atStart =>
    exact ⟨0, [], by omega, rfl, rfl, h0, hS, Nat.le_refl _⟩
  case round =>
    obtain ⟨k, pre, hk, rfl, hpre, hJs, hS, hz⟩ := hrel
    by_cases hlt : k < 256
    · obtain ⟨⟨c0, c1, c2, c3⟩, -⟩ := hS.four
      have hlen : pre.length < 256 := by
        have := congrArg List.length hpre
        rw [List.length_map] at this
        have := memb_len f k
        omega
      have hms := memb_succ f k
      cases hfk : f k
      · rw [hfk] at hms
        have HM := Lib.hid hms
        have HP := Lib.hid hpre
        have HF := Lib.hid hfk
        clear hms hpre hfk
        gi_wp2_with (refine ⟨trivial, ?_⟩; gi_at_call 50; refine (has_in f k false HF.out _ _ hlt).mono ?_; rintro e w1 ⟨rfl, hb1⟩)
        refine ⟨(fun _ h => by cases h), ?_⟩
        gi_wp2
        go_roundw
        case rel =>
          exact ⟨k + 1, pre, by omega, by go_num, by rw [HM.out, HP.out]; simp, HJ.out pre wr w1 none hJs (grownBy_of_below hb1) (by intro r e; cases e), hS.below hb1 hS.lt, Nat.le_trans hz hb1.size⟩
        case measure => simp [intOf]; omega
      · rw [hfk] at hms
        have HM := Lib.hid hms
        have HP := Lib.hid hpre
        have HF := Lib.hid hfk
        clear hms hpre hfk
        gi_wp2_with (refine ⟨trivial, ?_⟩; gi_at_call 50; refine (has_in f k true HF.out _ _ hlt).mono ?_; rintro e w1 ⟨rfl, hb1⟩; have hJ1 := HJ.out pre wr w1 none hJs (grownBy_of_below hb1) (by intro r e; cases e); obtain ⟨fn, tmps, assign, body, hy, hR⟩ := HY.out pre ⟨k, hlt⟩ w1 hJ1 hlen; dsimp only [encB] at hy)
        refine hR.mono ?_
        have hz1 := hb1.size
        clear hR hy
        rintro e W3 (⟨rfl, hJ3, hk3⟩ | ⟨rfl, hJx3⟩)
        · gi_wp2
          go_roundw
          case rel =>
            exact ⟨k + 1, pre ++ [⟨k, hlt⟩], by omega, by go_num, by rw [HM.out, List.map_append, HP.out]; simp, hJ3, (hS.below hb1 hS.lt).keepB hk3, Nat.le_trans (Nat.le_trans hz hz1) hk3.1⟩
          case measure => simp [intOf]; omega
        · gi_wp2
          refine bodyPost_ret (results_none rfl _ _ _) rfl ?_
          exact ⟨⟨_, rfl⟩, .inr ⟨_, trivial, hJx3⟩⟩
    · obtain rfl : k = 256 := by omega
      have HP := Lib.hid hpre
      clear hpre
      gi_wp2
      go_end0
      exact ⟨⟨_, rfl⟩, .inl ⟨pre, HP.out, hJs⟩⟩
theorem members_stops (n : Nat) (hn : 1 ≤ n) (Bs : Nat) (f : Nat → Bool) (w : World) (hS : SetAt f Bs w) :
    SeqStopsK Fence.wide n Try.prog 49 #[.pointer (some ⟨Bs, 0, none⟩)] (fun x : By => #[Value.int .u8 (x.1 : Int)]) (KeepB Bs) (fun ys : List By => ys.map (·.1) = memb f 256) (fun _ => True) 256 w := fun l J Jx W hW hJ _ hY h0 =>
  members1_in n hn l Bs f J Jx hY W hJ (hS.below hW hS.lt) h0
set_option maxHeartbeats 1000000 in
/-- members(s): the set is boxed; the function value captures the box. -/
theorem members_in (n : Nat) (f : Nat → Bool) (w : World) :
    CallsIn Fence.wide n Try.prog 46 #[.agg #[.int .u64 (setW f 0), .int .u64 (setW f 1), .int .u64 (setW f 2), .int .u64 (setW f 3)]] w fun e w' =>
      e = .returned (.func (.func 49) #[] #[.pointer (some ⟨w.heap.size, 0, none⟩)]) ∧ w' = w.alloc (.cells #[.int .u64 (setW f 0), .int .u64 (setW f 1), .int .u64 (setW f 2), .int .u64 (setW f 3)] 35) := by
  refine callsIn_of_wp Try.func46 rfl trivial ?_ rfl
  simp only [Try.ntmps46, List.size_toArray, List.length_cons, List.length_nil, Nat.reduceAdd, Nat.reduceSub, Array.replicate_succ, Array.replicate_zero, List.push_toArray, List.append_toArray, List.nil_append, List.cons_append]
  gi_wp2
  go_ret
  exact ⟨rfl, rfl⟩
end Go.Proofs.Ytklimoepkifnhaa
