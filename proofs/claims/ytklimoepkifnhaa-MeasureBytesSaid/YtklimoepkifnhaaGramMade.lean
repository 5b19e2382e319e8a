/- gram.wellMade and the reference's Made: the same for every node. Written by wip/gen/made.py. -/
import Derived.Test.YtklimoepkifnhaaGramDep
namespace Go.Proofs.Ytklimoepkifnhaa
open Go.RowKit
/-- A node is well made: its kind, how many kids, its rule, how many rules, whether its set is empty. -/
def made5 (op : Int) (l : Nat) (rule : Int) (R : Nat) (z : Bool) : Bool :=
  decide (0 ≤ op) && decide (op ≤ 9) && (if op ≤ 2 then l == 0 else if op ≤ 4 then decide (2 ≤ l) else l == 1) && (if op = 2 then decide (0 ≤ rule) && decide (rule < R) else rule == 0) && (op == 1 || z)
theorem made5_is (n : PN) (R : Nat) : madeB n R = made5 n.op n.kids.length n.rule R (n.s0 == 0 && n.s1 == 0 && n.s2 == 0 && n.s3 == 0) := rfl
theorem setZ_is (x0 x1 x2 x3 : Int) : (x0 == 0 && x1 == 0 && x2 == 0 && x3 == 0) = (x0 == 0 && (x1 == 0 && (x2 == 0 && x3 == 0))) := by
  rw [Bool.and_assoc, Bool.and_assoc]
theorem made5_low {op : Int} {l : Nat} {rule : Int} {R : Nat} {z : Bool} (h : op < 0) : made5 op l rule R z = false := by
  unfold made5; rw [decide_eq_false (by omega : ¬ 0 ≤ op)]; rfl
theorem made5_high {op : Int} {l : Nat} {rule : Int} {R : Nat} {z : Bool} (h : 9 < op) : made5 op l rule R z = false := by
  unfold made5; rw [decide_eq_false (by omega : ¬ op ≤ 9), Bool.and_false]; rfl
theorem made5_set {op : Int} {l : Nat} {rule : Int} {R : Nat} (h : op ≠ 1) : made5 op l rule R false = false := by
  unfold made5; rw [ibeq_no h]; simp
theorem made5_rule {op : Int} {l : Nat} {rule : Int} {R : Nat} {z : Bool} (h : op ≠ 2) (h2 : rule ≠ 0) : made5 op l rule R z = false := by
  unfold made5; rw [if_neg h, ibeq_no h2]; simp
theorem made5_call {l : Nat} {rule : Int} {R : Nat} {z : Bool} (h : rule < 0 ∨ (R : Int) ≤ rule) : made5 2 l rule R z = false := by
  have : (decide (0 ≤ rule) && decide (rule < (R : Int))) = false := by
    rcases h with h | h
    · rw [decide_eq_false (by omega : ¬ 0 ≤ rule)]; rfl
    · rw [decide_eq_false (by omega : ¬ rule < R), Bool.and_false]
  unfold made5; rw [if_pos rfl, this]; simp
theorem made5_none {op : Int} {l : Nat} {rule : Int} {R : Nat} {z : Bool} (h : op ≤ 2) (h2 : l ≠ 0) : made5 op l rule R z = false := by
  have : (l == 0) = false := by simpa using h2
  unfold made5; rw [if_pos h, this]; simp
theorem made5_many {op : Int} {l : Nat} {rule : Int} {R : Nat} {z : Bool} (h : op = 3 ∨ op = 4) (h2 : l < 2) : made5 op l rule R z = false := by
  unfold made5; rw [if_neg (by omega), if_pos (by omega), decide_eq_false (by omega : ¬ 2 ≤ l)]; simp
theorem made5_one {op : Int} {l : Nat} {rule : Int} {R : Nat} {z : Bool} (h : 5 ≤ op) (h2 : l ≠ 1) : made5 op l rule R z = false := by
  have : (l == 1) = false := by simpa using h2
  unfold made5; rw [if_neg (by omega), if_neg (by omega), this]; simp
theorem made5_yes {op : Int} {l : Nat} {rule : Int} {R : Nat} {z : Bool} (h0 : 0 ≤ op) (h9 : op ≤ 9) (hl : (op ≤ 2 → l = 0) ∧ (2 < op → op ≤ 4 → 2 ≤ l) ∧ (4 < op → l = 1)) (hr : (op = 2 → 0 ≤ rule ∧ rule < R) ∧ (op ≠ 2 → rule = 0)) (hz : op = 1 ∨ z = true) : made5 op l rule R z = true := by
  unfold made5
  have e1 : (if op ≤ 2 then l == 0 else if op ≤ 4 then decide (2 ≤ l) else l == 1) = true := by
    by_cases a : op ≤ 2
    · rw [if_pos a]; simpa using hl.1 a
    · rw [if_neg a]
      by_cases b : op ≤ 4
      · rw [if_pos b]; simpa using hl.2.1 (by omega) b
      · rw [if_neg b]; simpa using hl.2.2 (by omega)
  have e2 : (if op = 2 then decide (0 ≤ rule) && decide (rule < (R : Int)) else rule == 0) = true := by
    by_cases a : op = 2
    · rw [if_pos a]; simpa using hr.1 a
    · rw [if_neg a]; simpa using hr.2 a
  have e3 : (op == 1 || z) = true := by
    rcases hz with h | h
    · subst h; rfl
    · rw [h, Bool.or_true]
  rw [decide_eq_true h0, decide_eq_true h9, e1, e2, e3]; rfl

set_option maxHeartbeats 1000000 in
set_option maxRecDepth 100000 in
theorem rm_low (op : Int) (ka : Option Addr) (l kc : Nat) (rule x0 x1 x2 x3 : Int) (R : Nat) (w : World) (_hl : l ≤ 9223372036854775807) (hop : op < 0) :
    Calls Try.prog 44 #[.agg #[.int .i64 op, .slice ka l kc, .int .i64 rule, .int .u64 x0, .int .u64 x1, .int .u64 x2, .int .u64 x3], .int .i64 (R : Int)] w fun e w' => e = .returned (.bool false) ∧ Below w.heap.size w w' := by
  go_enter Try.func44, Try.ntmps44
  go_wp2
  go_ret
  exact ⟨rfl, one_new _ _⟩
set_option maxHeartbeats 1000000 in
set_option maxRecDepth 100000 in
theorem rm_high (op : Int) (ka : Option Addr) (l kc : Nat) (rule x0 x1 x2 x3 : Int) (R : Nat) (w : World) (_hl : l ≤ 9223372036854775807) (hop : 9 < op) (hop0 : ¬ op < 0) :
    Calls Try.prog 44 #[.agg #[.int .i64 op, .slice ka l kc, .int .i64 rule, .int .u64 x0, .int .u64 x1, .int .u64 x2, .int .u64 x3], .int .i64 (R : Int)] w fun e w' => e = .returned (.bool false) ∧ Below w.heap.size w w' := by
  go_enter Try.func44, Try.ntmps44
  go_wp2
  go_ret
  exact ⟨rfl, one_new _ _⟩
set_option maxHeartbeats 1000000 in
set_option maxRecDepth 100000 in
theorem rm_0_0a (ka : Option Addr) (l kc : Nat) (rule x0 x1 x2 x3 : Int) (R : Nat) (w : World) (_hl : l ≤ 9223372036854775807) (k0 : l = 0) (hr : (rule != 0) = true) :
    Calls Try.prog 44 #[.agg #[.int .i64 (0), .slice ka l kc, .int .i64 rule, .int .u64 x0, .int .u64 x1, .int .u64 x2, .int .u64 x3], .int .i64 (R : Int)] w fun e w' => e = .returned (.bool false) ∧ Below w.heap.size w w' := by
  subst k0
  go_enter Try.func44, Try.ntmps44
  go_wp2
  go_ret
  exact ⟨rfl, one_new _ _⟩
set_option maxHeartbeats 1000000 in
set_option maxRecDepth 100000 in
theorem rm_0_0s (ka : Option Addr) (l kc : Nat) (rule x0 x1 x2 x3 : Int) (R : Nat) (w : World) (_hl : l ≤ 9223372036854775807) (k0 : l = 0) (hr : (rule != 0) = false) (hz : (x0 == 0 && (x1 == 0 && (x2 == 0 && x3 == 0))) = false) :
    Calls Try.prog 44 #[.agg #[.int .i64 (0), .slice ka l kc, .int .i64 rule, .int .u64 x0, .int .u64 x1, .int .u64 x2, .int .u64 x3], .int .i64 (R : Int)] w fun e w' => e = .returned (.bool false) ∧ Below w.heap.size w w' := by
  have HS : Hid (∀ w, (binOp .eql 35 (.agg #[.int .u64 x0, .int .u64 x1, .int .u64 x2, .int .u64 x3]) (.agg #[.int .u64 0, .int .u64 0, .int .u64 0, .int .u64 0])).run Try.prog w = .ok (.bool false) w) := Lib.hid fun w => by rw [geql_set, hz]
  clear hz
  subst k0
  go_enter Try.func44, Try.ntmps44
  go_wp2_with (with_reducible refine gwpList_agg BinOp.eql 35 _ _ _ rfl rfl _ _ rfl rfl ggt_set _ (HS.out _) ?_)
  go_ret
  exact ⟨rfl, one_new _ _⟩
set_option maxHeartbeats 1000000 in
set_option maxRecDepth 100000 in
theorem rm_0_0 (ka : Option Addr) (l kc : Nat) (rule x0 x1 x2 x3 : Int) (R : Nat) (w : World) (_hl : l ≤ 9223372036854775807) (k0 : l = 0) (hr : (rule != 0) = false) (hz : (x0 == 0 && (x1 == 0 && (x2 == 0 && x3 == 0))) = true) :
    Calls Try.prog 44 #[.agg #[.int .i64 (0), .slice ka l kc, .int .i64 rule, .int .u64 x0, .int .u64 x1, .int .u64 x2, .int .u64 x3], .int .i64 (R : Int)] w fun e w' => e = .returned (.bool true) ∧ Below w.heap.size w w' := by
  have HS : Hid (∀ w, (binOp .eql 35 (.agg #[.int .u64 x0, .int .u64 x1, .int .u64 x2, .int .u64 x3]) (.agg #[.int .u64 0, .int .u64 0, .int .u64 0, .int .u64 0])).run Try.prog w = .ok (.bool true) w) := Lib.hid fun w => by rw [geql_set, hz]
  clear hz
  subst k0
  go_enter Try.func44, Try.ntmps44
  go_wp2_with (with_reducible refine gwpList_agg BinOp.eql 35 _ _ _ rfl rfl _ _ rfl rfl ggt_set _ (HS.out _) ?_)
  go_ret
  exact ⟨rfl, one_new _ _⟩
set_option maxHeartbeats 1000000 in
set_option maxRecDepth 100000 in
theorem rm_0_1 (ka : Option Addr) (l kc : Nat) (rule x0 x1 x2 x3 : Int) (R : Nat) (w : World) (_hl : l ≤ 9223372036854775807) (k1 : l = 1) :
    Calls Try.prog 44 #[.agg #[.int .i64 (0), .slice ka l kc, .int .i64 rule, .int .u64 x0, .int .u64 x1, .int .u64 x2, .int .u64 x3], .int .i64 (R : Int)] w fun e w' => e = .returned (.bool false) ∧ Below w.heap.size w w' := by
  subst k1
  go_enter Try.func44, Try.ntmps44
  go_wp2
  go_ret
  exact ⟨rfl, one_new _ _⟩
set_option maxHeartbeats 1000000 in
set_option maxRecDepth 100000 in
theorem rm_0_2 (ka : Option Addr) (l kc : Nat) (rule x0 x1 x2 x3 : Int) (R : Nat) (w : World) (_hl : l ≤ 9223372036854775807) (k2 : 2 ≤ l) :
    Calls Try.prog 44 #[.agg #[.int .i64 (0), .slice ka l kc, .int .i64 rule, .int .u64 x0, .int .u64 x1, .int .u64 x2, .int .u64 x3], .int .i64 (R : Int)] w fun e w' => e = .returned (.bool false) ∧ Below w.heap.size w w' := by
  have m0 : ((l : Int) != 0) = true := ibne_yes (by omega)
  have m1 : ((l : Int) != 1) = true := ibne_yes (by omega)
  have m2 : ((l : Int) == 0) = false := ibeq_no (by omega)
  have m3 : ((l : Int) == 1) = false := ibeq_no (by omega)
  have m4 : ¬ (l : Int) < 2 := by omega
  have m5 : (2 : Int) ≤ (l : Int) := by omega
  go_enter Try.func44, Try.ntmps44
  go_wp2
  go_ret
  exact ⟨rfl, one_new _ _⟩
set_option maxHeartbeats 1000000 in
set_option maxRecDepth 100000 in
theorem rm_1_0a (ka : Option Addr) (l kc : Nat) (rule x0 x1 x2 x3 : Int) (R : Nat) (w : World) (_hl : l ≤ 9223372036854775807) (k0 : l = 0) (hr : (rule != 0) = true) :
    Calls Try.prog 44 #[.agg #[.int .i64 (1), .slice ka l kc, .int .i64 rule, .int .u64 x0, .int .u64 x1, .int .u64 x2, .int .u64 x3], .int .i64 (R : Int)] w fun e w' => e = .returned (.bool false) ∧ Below w.heap.size w w' := by
  subst k0
  go_enter Try.func44, Try.ntmps44
  go_wp2
  go_ret
  exact ⟨rfl, one_new _ _⟩
set_option maxHeartbeats 1000000 in
set_option maxRecDepth 100000 in
theorem rm_1_0 (ka : Option Addr) (l kc : Nat) (rule x0 x1 x2 x3 : Int) (R : Nat) (w : World) (_hl : l ≤ 9223372036854775807) (k0 : l = 0) (hr : (rule != 0) = false) :
    Calls Try.prog 44 #[.agg #[.int .i64 (1), .slice ka l kc, .int .i64 rule, .int .u64 x0, .int .u64 x1, .int .u64 x2, .int .u64 x3], .int .i64 (R : Int)] w fun e w' => e = .returned (.bool true) ∧ Below w.heap.size w w' := by
  subst k0
  go_enter Try.func44, Try.ntmps44
  go_wp2
  go_ret
  exact ⟨rfl, one_new _ _⟩
set_option maxHeartbeats 1000000 in
set_option maxRecDepth 100000 in
theorem rm_1_1 (ka : Option Addr) (l kc : Nat) (rule x0 x1 x2 x3 : Int) (R : Nat) (w : World) (_hl : l ≤ 9223372036854775807) (k1 : l = 1) :
    Calls Try.prog 44 #[.agg #[.int .i64 (1), .slice ka l kc, .int .i64 rule, .int .u64 x0, .int .u64 x1, .int .u64 x2, .int .u64 x3], .int .i64 (R : Int)] w fun e w' => e = .returned (.bool false) ∧ Below w.heap.size w w' := by
  subst k1
  go_enter Try.func44, Try.ntmps44
  go_wp2
  go_ret
  exact ⟨rfl, one_new _ _⟩
set_option maxHeartbeats 1000000 in
set_option maxRecDepth 100000 in
theorem rm_1_2 (ka : Option Addr) (l kc : Nat) (rule x0 x1 x2 x3 : Int) (R : Nat) (w : World) (_hl : l ≤ 9223372036854775807) (k2 : 2 ≤ l) :
    Calls Try.prog 44 #[.agg #[.int .i64 (1), .slice ka l kc, .int .i64 rule, .int .u64 x0, .int .u64 x1, .int .u64 x2, .int .u64 x3], .int .i64 (R : Int)] w fun e w' => e = .returned (.bool false) ∧ Below w.heap.size w w' := by
  have m0 : ((l : Int) != 0) = true := ibne_yes (by omega)
  have m1 : ((l : Int) != 1) = true := ibne_yes (by omega)
  have m2 : ((l : Int) == 0) = false := ibeq_no (by omega)
  have m3 : ((l : Int) == 1) = false := ibeq_no (by omega)
  have m4 : ¬ (l : Int) < 2 := by omega
  have m5 : (2 : Int) ≤ (l : Int) := by omega
  go_enter Try.func44, Try.ntmps44
  go_wp2
  go_ret
  exact ⟨rfl, one_new _ _⟩
set_option maxHeartbeats 1000000 in
set_option maxRecDepth 100000 in
theorem rm_2_0a (ka : Option Addr) (l kc : Nat) (rule x0 x1 x2 x3 : Int) (R : Nat) (w : World) (_hl : l ≤ 9223372036854775807) (k0 : l = 0) (hr : rule < 0) :
    Calls Try.prog 44 #[.agg #[.int .i64 (2), .slice ka l kc, .int .i64 rule, .int .u64 x0, .int .u64 x1, .int .u64 x2, .int .u64 x3], .int .i64 (R : Int)] w fun e w' => e = .returned (.bool false) ∧ Below w.heap.size w w' := by
  subst k0
  go_enter Try.func44, Try.ntmps44
  go_wp2
  go_ret
  exact ⟨rfl, one_new _ _⟩
set_option maxHeartbeats 1000000 in
set_option maxRecDepth 100000 in
theorem rm_2_0b (ka : Option Addr) (l kc : Nat) (rule x0 x1 x2 x3 : Int) (R : Nat) (w : World) (_hl : l ≤ 9223372036854775807) (k0 : l = 0) (hr : ¬ rule < 0) (hR : (R : Int) ≤ rule) :
    Calls Try.prog 44 #[.agg #[.int .i64 (2), .slice ka l kc, .int .i64 rule, .int .u64 x0, .int .u64 x1, .int .u64 x2, .int .u64 x3], .int .i64 (R : Int)] w fun e w' => e = .returned (.bool false) ∧ Below w.heap.size w w' := by
  subst k0
  go_enter Try.func44, Try.ntmps44
  go_wp2
  go_ret
  exact ⟨rfl, one_new _ _⟩
set_option maxHeartbeats 1000000 in
set_option maxRecDepth 100000 in
theorem rm_2_0s (ka : Option Addr) (l kc : Nat) (rule x0 x1 x2 x3 : Int) (R : Nat) (w : World) (_hl : l ≤ 9223372036854775807) (k0 : l = 0) (hr : ¬ rule < 0) (hR : ¬ (R : Int) ≤ rule) (hz : (x0 == 0 && (x1 == 0 && (x2 == 0 && x3 == 0))) = false) :
    Calls Try.prog 44 #[.agg #[.int .i64 (2), .slice ka l kc, .int .i64 rule, .int .u64 x0, .int .u64 x1, .int .u64 x2, .int .u64 x3], .int .i64 (R : Int)] w fun e w' => e = .returned (.bool false) ∧ Below w.heap.size w w' := by
  have HS : Hid (∀ w, (binOp .eql 35 (.agg #[.int .u64 x0, .int .u64 x1, .int .u64 x2, .int .u64 x3]) (.agg #[.int .u64 0, .int .u64 0, .int .u64 0, .int .u64 0])).run Try.prog w = .ok (.bool false) w) := Lib.hid fun w => by rw [geql_set, hz]
  clear hz
  subst k0
  go_enter Try.func44, Try.ntmps44
  go_wp2_with (with_reducible refine gwpList_agg BinOp.eql 35 _ _ _ rfl rfl _ _ rfl rfl ggt_set _ (HS.out _) ?_)
  go_ret
  exact ⟨rfl, one_new _ _⟩
set_option maxHeartbeats 1000000 in
set_option maxRecDepth 100000 in
theorem rm_2_0 (ka : Option Addr) (l kc : Nat) (rule x0 x1 x2 x3 : Int) (R : Nat) (w : World) (_hl : l ≤ 9223372036854775807) (k0 : l = 0) (hr : ¬ rule < 0) (hR : ¬ (R : Int) ≤ rule) (hz : (x0 == 0 && (x1 == 0 && (x2 == 0 && x3 == 0))) = true) :
    Calls Try.prog 44 #[.agg #[.int .i64 (2), .slice ka l kc, .int .i64 rule, .int .u64 x0, .int .u64 x1, .int .u64 x2, .int .u64 x3], .int .i64 (R : Int)] w fun e w' => e = .returned (.bool true) ∧ Below w.heap.size w w' := by
  have HS : Hid (∀ w, (binOp .eql 35 (.agg #[.int .u64 x0, .int .u64 x1, .int .u64 x2, .int .u64 x3]) (.agg #[.int .u64 0, .int .u64 0, .int .u64 0, .int .u64 0])).run Try.prog w = .ok (.bool true) w) := Lib.hid fun w => by rw [geql_set, hz]
  clear hz
  subst k0
  go_enter Try.func44, Try.ntmps44
  go_wp2_with (with_reducible refine gwpList_agg BinOp.eql 35 _ _ _ rfl rfl _ _ rfl rfl ggt_set _ (HS.out _) ?_)
  go_ret
  exact ⟨rfl, one_new _ _⟩
set_option maxHeartbeats 1000000 in
set_option maxRecDepth 100000 in
theorem rm_2_1 (ka : Option Addr) (l kc : Nat) (rule x0 x1 x2 x3 : Int) (R : Nat) (w : World) (_hl : l ≤ 9223372036854775807) (k1 : l = 1) :
    Calls Try.prog 44 #[.agg #[.int .i64 (2), .slice ka l kc, .int .i64 rule, .int .u64 x0, .int .u64 x1, .int .u64 x2, .int .u64 x3], .int .i64 (R : Int)] w fun e w' => e = .returned (.bool false) ∧ Below w.heap.size w w' := by
  subst k1
  go_enter Try.func44, Try.ntmps44
  go_wp2
  go_ret
  exact ⟨rfl, one_new _ _⟩
set_option maxHeartbeats 1000000 in
set_option maxRecDepth 100000 in
theorem rm_2_2 (ka : Option Addr) (l kc : Nat) (rule x0 x1 x2 x3 : Int) (R : Nat) (w : World) (_hl : l ≤ 9223372036854775807) (k2 : 2 ≤ l) :
    Calls Try.prog 44 #[.agg #[.int .i64 (2), .slice ka l kc, .int .i64 rule, .int .u64 x0, .int .u64 x1, .int .u64 x2, .int .u64 x3], .int .i64 (R : Int)] w fun e w' => e = .returned (.bool false) ∧ Below w.heap.size w w' := by
  have m0 : ((l : Int) != 0) = true := ibne_yes (by omega)
  have m1 : ((l : Int) != 1) = true := ibne_yes (by omega)
  have m2 : ((l : Int) == 0) = false := ibeq_no (by omega)
  have m3 : ((l : Int) == 1) = false := ibeq_no (by omega)
  have m4 : ¬ (l : Int) < 2 := by omega
  have m5 : (2 : Int) ≤ (l : Int) := by omega
  go_enter Try.func44, Try.ntmps44
  go_wp2
  go_ret
  exact ⟨rfl, one_new _ _⟩
set_option maxHeartbeats 1000000 in
set_option maxRecDepth 100000 in
theorem rm_3_0 (ka : Option Addr) (l kc : Nat) (rule x0 x1 x2 x3 : Int) (R : Nat) (w : World) (_hl : l ≤ 9223372036854775807) (k0 : l = 0) :
    Calls Try.prog 44 #[.agg #[.int .i64 (3), .slice ka l kc, .int .i64 rule, .int .u64 x0, .int .u64 x1, .int .u64 x2, .int .u64 x3], .int .i64 (R : Int)] w fun e w' => e = .returned (.bool false) ∧ Below w.heap.size w w' := by
  subst k0
  go_enter Try.func44, Try.ntmps44
  go_wp2
  go_ret
  exact ⟨rfl, one_new _ _⟩
set_option maxHeartbeats 1000000 in
set_option maxRecDepth 100000 in
theorem rm_3_1 (ka : Option Addr) (l kc : Nat) (rule x0 x1 x2 x3 : Int) (R : Nat) (w : World) (_hl : l ≤ 9223372036854775807) (k1 : l = 1) :
    Calls Try.prog 44 #[.agg #[.int .i64 (3), .slice ka l kc, .int .i64 rule, .int .u64 x0, .int .u64 x1, .int .u64 x2, .int .u64 x3], .int .i64 (R : Int)] w fun e w' => e = .returned (.bool false) ∧ Below w.heap.size w w' := by
  subst k1
  go_enter Try.func44, Try.ntmps44
  go_wp2
  go_ret
  exact ⟨rfl, one_new _ _⟩
set_option maxHeartbeats 1000000 in
set_option maxRecDepth 100000 in
theorem rm_3_2a (ka : Option Addr) (l kc : Nat) (rule x0 x1 x2 x3 : Int) (R : Nat) (w : World) (_hl : l ≤ 9223372036854775807) (k2 : 2 ≤ l) (hr : (rule != 0) = true) :
    Calls Try.prog 44 #[.agg #[.int .i64 (3), .slice ka l kc, .int .i64 rule, .int .u64 x0, .int .u64 x1, .int .u64 x2, .int .u64 x3], .int .i64 (R : Int)] w fun e w' => e = .returned (.bool false) ∧ Below w.heap.size w w' := by
  have m0 : ((l : Int) != 0) = true := ibne_yes (by omega)
  have m1 : ((l : Int) != 1) = true := ibne_yes (by omega)
  have m2 : ((l : Int) == 0) = false := ibeq_no (by omega)
  have m3 : ((l : Int) == 1) = false := ibeq_no (by omega)
  have m4 : ¬ (l : Int) < 2 := by omega
  have m5 : (2 : Int) ≤ (l : Int) := by omega
  go_enter Try.func44, Try.ntmps44
  go_wp2
  go_ret
  exact ⟨rfl, one_new _ _⟩
set_option maxHeartbeats 1000000 in
set_option maxRecDepth 100000 in
theorem rm_3_2s (ka : Option Addr) (l kc : Nat) (rule x0 x1 x2 x3 : Int) (R : Nat) (w : World) (_hl : l ≤ 9223372036854775807) (k2 : 2 ≤ l) (hr : (rule != 0) = false) (hz : (x0 == 0 && (x1 == 0 && (x2 == 0 && x3 == 0))) = false) :
    Calls Try.prog 44 #[.agg #[.int .i64 (3), .slice ka l kc, .int .i64 rule, .int .u64 x0, .int .u64 x1, .int .u64 x2, .int .u64 x3], .int .i64 (R : Int)] w fun e w' => e = .returned (.bool false) ∧ Below w.heap.size w w' := by
  have HS : Hid (∀ w, (binOp .eql 35 (.agg #[.int .u64 x0, .int .u64 x1, .int .u64 x2, .int .u64 x3]) (.agg #[.int .u64 0, .int .u64 0, .int .u64 0, .int .u64 0])).run Try.prog w = .ok (.bool false) w) := Lib.hid fun w => by rw [geql_set, hz]
  clear hz
  have m0 : ((l : Int) != 0) = true := ibne_yes (by omega)
  have m1 : ((l : Int) != 1) = true := ibne_yes (by omega)
  have m2 : ((l : Int) == 0) = false := ibeq_no (by omega)
  have m3 : ((l : Int) == 1) = false := ibeq_no (by omega)
  have m4 : ¬ (l : Int) < 2 := by omega
  have m5 : (2 : Int) ≤ (l : Int) := by omega
  go_enter Try.func44, Try.ntmps44
  go_wp2_with (with_reducible refine gwpList_agg BinOp.eql 35 _ _ _ rfl rfl _ _ rfl rfl ggt_set _ (HS.out _) ?_)
  go_ret
  exact ⟨rfl, one_new _ _⟩
set_option maxHeartbeats 1000000 in
set_option maxRecDepth 100000 in
theorem rm_3_2 (ka : Option Addr) (l kc : Nat) (rule x0 x1 x2 x3 : Int) (R : Nat) (w : World) (_hl : l ≤ 9223372036854775807) (k2 : 2 ≤ l) (hr : (rule != 0) = false) (hz : (x0 == 0 && (x1 == 0 && (x2 == 0 && x3 == 0))) = true) :
    Calls Try.prog 44 #[.agg #[.int .i64 (3), .slice ka l kc, .int .i64 rule, .int .u64 x0, .int .u64 x1, .int .u64 x2, .int .u64 x3], .int .i64 (R : Int)] w fun e w' => e = .returned (.bool true) ∧ Below w.heap.size w w' := by
  have HS : Hid (∀ w, (binOp .eql 35 (.agg #[.int .u64 x0, .int .u64 x1, .int .u64 x2, .int .u64 x3]) (.agg #[.int .u64 0, .int .u64 0, .int .u64 0, .int .u64 0])).run Try.prog w = .ok (.bool true) w) := Lib.hid fun w => by rw [geql_set, hz]
  clear hz
  have m0 : ((l : Int) != 0) = true := ibne_yes (by omega)
  have m1 : ((l : Int) != 1) = true := ibne_yes (by omega)
  have m2 : ((l : Int) == 0) = false := ibeq_no (by omega)
  have m3 : ((l : Int) == 1) = false := ibeq_no (by omega)
  have m4 : ¬ (l : Int) < 2 := by omega
  have m5 : (2 : Int) ≤ (l : Int) := by omega
  go_enter Try.func44, Try.ntmps44
  go_wp2_with (with_reducible refine gwpList_agg BinOp.eql 35 _ _ _ rfl rfl _ _ rfl rfl ggt_set _ (HS.out _) ?_)
  go_ret
  exact ⟨rfl, one_new _ _⟩
set_option maxHeartbeats 1000000 in
set_option maxRecDepth 100000 in
theorem rm_4_0 (ka : Option Addr) (l kc : Nat) (rule x0 x1 x2 x3 : Int) (R : Nat) (w : World) (_hl : l ≤ 9223372036854775807) (k0 : l = 0) :
    Calls Try.prog 44 #[.agg #[.int .i64 (4), .slice ka l kc, .int .i64 rule, .int .u64 x0, .int .u64 x1, .int .u64 x2, .int .u64 x3], .int .i64 (R : Int)] w fun e w' => e = .returned (.bool false) ∧ Below w.heap.size w w' := by
  subst k0
  go_enter Try.func44, Try.ntmps44
  go_wp2
  go_ret
  exact ⟨rfl, one_new _ _⟩
set_option maxHeartbeats 1000000 in
set_option maxRecDepth 100000 in
theorem rm_4_1 (ka : Option Addr) (l kc : Nat) (rule x0 x1 x2 x3 : Int) (R : Nat) (w : World) (_hl : l ≤ 9223372036854775807) (k1 : l = 1) :
    Calls Try.prog 44 #[.agg #[.int .i64 (4), .slice ka l kc, .int .i64 rule, .int .u64 x0, .int .u64 x1, .int .u64 x2, .int .u64 x3], .int .i64 (R : Int)] w fun e w' => e = .returned (.bool false) ∧ Below w.heap.size w w' := by
  subst k1
  go_enter Try.func44, Try.ntmps44
  go_wp2
  go_ret
  exact ⟨rfl, one_new _ _⟩
set_option maxHeartbeats 1000000 in
set_option maxRecDepth 100000 in
theorem rm_4_2a (ka : Option Addr) (l kc : Nat) (rule x0 x1 x2 x3 : Int) (R : Nat) (w : World) (_hl : l ≤ 9223372036854775807) (k2 : 2 ≤ l) (hr : (rule != 0) = true) :
    Calls Try.prog 44 #[.agg #[.int .i64 (4), .slice ka l kc, .int .i64 rule, .int .u64 x0, .int .u64 x1, .int .u64 x2, .int .u64 x3], .int .i64 (R : Int)] w fun e w' => e = .returned (.bool false) ∧ Below w.heap.size w w' := by
  have m0 : ((l : Int) != 0) = true := ibne_yes (by omega)
  have m1 : ((l : Int) != 1) = true := ibne_yes (by omega)
  have m2 : ((l : Int) == 0) = false := ibeq_no (by omega)
  have m3 : ((l : Int) == 1) = false := ibeq_no (by omega)
  have m4 : ¬ (l : Int) < 2 := by omega
  have m5 : (2 : Int) ≤ (l : Int) := by omega
  go_enter Try.func44, Try.ntmps44
  go_wp2
  go_ret
  exact ⟨rfl, one_new _ _⟩
set_option maxHeartbeats 1000000 in
set_option maxRecDepth 100000 in
theorem rm_4_2s (ka : Option Addr) (l kc : Nat) (rule x0 x1 x2 x3 : Int) (R : Nat) (w : World) (_hl : l ≤ 9223372036854775807) (k2 : 2 ≤ l) (hr : (rule != 0) = false) (hz : (x0 == 0 && (x1 == 0 && (x2 == 0 && x3 == 0))) = false) :
    Calls Try.prog 44 #[.agg #[.int .i64 (4), .slice ka l kc, .int .i64 rule, .int .u64 x0, .int .u64 x1, .int .u64 x2, .int .u64 x3], .int .i64 (R : Int)] w fun e w' => e = .returned (.bool false) ∧ Below w.heap.size w w' := by
  have HS : Hid (∀ w, (binOp .eql 35 (.agg #[.int .u64 x0, .int .u64 x1, .int .u64 x2, .int .u64 x3]) (.agg #[.int .u64 0, .int .u64 0, .int .u64 0, .int .u64 0])).run Try.prog w = .ok (.bool false) w) := Lib.hid fun w => by rw [geql_set, hz]
  clear hz
  have m0 : ((l : Int) != 0) = true := ibne_yes (by omega)
  have m1 : ((l : Int) != 1) = true := ibne_yes (by omega)
  have m2 : ((l : Int) == 0) = false := ibeq_no (by omega)
  have m3 : ((l : Int) == 1) = false := ibeq_no (by omega)
  have m4 : ¬ (l : Int) < 2 := by omega
  have m5 : (2 : Int) ≤ (l : Int) := by omega
  go_enter Try.func44, Try.ntmps44
  go_wp2_with (with_reducible refine gwpList_agg BinOp.eql 35 _ _ _ rfl rfl _ _ rfl rfl ggt_set _ (HS.out _) ?_)
  go_ret
  exact ⟨rfl, one_new _ _⟩
set_option maxHeartbeats 1000000 in
set_option maxRecDepth 100000 in
theorem rm_4_2 (ka : Option Addr) (l kc : Nat) (rule x0 x1 x2 x3 : Int) (R : Nat) (w : World) (_hl : l ≤ 9223372036854775807) (k2 : 2 ≤ l) (hr : (rule != 0) = false) (hz : (x0 == 0 && (x1 == 0 && (x2 == 0 && x3 == 0))) = true) :
    Calls Try.prog 44 #[.agg #[.int .i64 (4), .slice ka l kc, .int .i64 rule, .int .u64 x0, .int .u64 x1, .int .u64 x2, .int .u64 x3], .int .i64 (R : Int)] w fun e w' => e = .returned (.bool true) ∧ Below w.heap.size w w' := by
  have HS : Hid (∀ w, (binOp .eql 35 (.agg #[.int .u64 x0, .int .u64 x1, .int .u64 x2, .int .u64 x3]) (.agg #[.int .u64 0, .int .u64 0, .int .u64 0, .int .u64 0])).run Try.prog w = .ok (.bool true) w) := Lib.hid fun w => by rw [geql_set, hz]
  clear hz
  have m0 : ((l : Int) != 0) = true := ibne_yes (by omega)
  have m1 : ((l : Int) != 1) = true := ibne_yes (by omega)
  have m2 : ((l : Int) == 0) = false := ibeq_no (by omega)
  have m3 : ((l : Int) == 1) = false := ibeq_no (by omega)
  have m4 : ¬ (l : Int) < 2 := by omega
  have m5 : (2 : Int) ≤ (l : Int) := by omega
  go_enter Try.func44, Try.ntmps44
  go_wp2_with (with_reducible refine gwpList_agg BinOp.eql 35 _ _ _ rfl rfl _ _ rfl rfl ggt_set _ (HS.out _) ?_)
  go_ret
  exact ⟨rfl, one_new _ _⟩
set_option maxHeartbeats 1000000 in
set_option maxRecDepth 100000 in
theorem rm_5_0 (ka : Option Addr) (l kc : Nat) (rule x0 x1 x2 x3 : Int) (R : Nat) (w : World) (_hl : l ≤ 9223372036854775807) (k0 : l = 0) :
    Calls Try.prog 44 #[.agg #[.int .i64 (5), .slice ka l kc, .int .i64 rule, .int .u64 x0, .int .u64 x1, .int .u64 x2, .int .u64 x3], .int .i64 (R : Int)] w fun e w' => e = .returned (.bool false) ∧ Below w.heap.size w w' := by
  subst k0
  go_enter Try.func44, Try.ntmps44
  go_wp2
  go_ret
  exact ⟨rfl, one_new _ _⟩
set_option maxHeartbeats 1000000 in
set_option maxRecDepth 100000 in
theorem rm_5_1a (ka : Option Addr) (l kc : Nat) (rule x0 x1 x2 x3 : Int) (R : Nat) (w : World) (_hl : l ≤ 9223372036854775807) (k1 : l = 1) (hr : (rule != 0) = true) :
    Calls Try.prog 44 #[.agg #[.int .i64 (5), .slice ka l kc, .int .i64 rule, .int .u64 x0, .int .u64 x1, .int .u64 x2, .int .u64 x3], .int .i64 (R : Int)] w fun e w' => e = .returned (.bool false) ∧ Below w.heap.size w w' := by
  subst k1
  go_enter Try.func44, Try.ntmps44
  go_wp2
  go_ret
  exact ⟨rfl, one_new _ _⟩
set_option maxHeartbeats 1000000 in
set_option maxRecDepth 100000 in
theorem rm_5_1s (ka : Option Addr) (l kc : Nat) (rule x0 x1 x2 x3 : Int) (R : Nat) (w : World) (_hl : l ≤ 9223372036854775807) (k1 : l = 1) (hr : (rule != 0) = false) (hz : (x0 == 0 && (x1 == 0 && (x2 == 0 && x3 == 0))) = false) :
    Calls Try.prog 44 #[.agg #[.int .i64 (5), .slice ka l kc, .int .i64 rule, .int .u64 x0, .int .u64 x1, .int .u64 x2, .int .u64 x3], .int .i64 (R : Int)] w fun e w' => e = .returned (.bool false) ∧ Below w.heap.size w w' := by
  have HS : Hid (∀ w, (binOp .eql 35 (.agg #[.int .u64 x0, .int .u64 x1, .int .u64 x2, .int .u64 x3]) (.agg #[.int .u64 0, .int .u64 0, .int .u64 0, .int .u64 0])).run Try.prog w = .ok (.bool false) w) := Lib.hid fun w => by rw [geql_set, hz]
  clear hz
  subst k1
  go_enter Try.func44, Try.ntmps44
  go_wp2_with (with_reducible refine gwpList_agg BinOp.eql 35 _ _ _ rfl rfl _ _ rfl rfl ggt_set _ (HS.out _) ?_)
  go_ret
  exact ⟨rfl, one_new _ _⟩
set_option maxHeartbeats 1000000 in
set_option maxRecDepth 100000 in
theorem rm_5_1 (ka : Option Addr) (l kc : Nat) (rule x0 x1 x2 x3 : Int) (R : Nat) (w : World) (_hl : l ≤ 9223372036854775807) (k1 : l = 1) (hr : (rule != 0) = false) (hz : (x0 == 0 && (x1 == 0 && (x2 == 0 && x3 == 0))) = true) :
    Calls Try.prog 44 #[.agg #[.int .i64 (5), .slice ka l kc, .int .i64 rule, .int .u64 x0, .int .u64 x1, .int .u64 x2, .int .u64 x3], .int .i64 (R : Int)] w fun e w' => e = .returned (.bool true) ∧ Below w.heap.size w w' := by
  have HS : Hid (∀ w, (binOp .eql 35 (.agg #[.int .u64 x0, .int .u64 x1, .int .u64 x2, .int .u64 x3]) (.agg #[.int .u64 0, .int .u64 0, .int .u64 0, .int .u64 0])).run Try.prog w = .ok (.bool true) w) := Lib.hid fun w => by rw [geql_set, hz]
  clear hz
  subst k1
  go_enter Try.func44, Try.ntmps44
  go_wp2_with (with_reducible refine gwpList_agg BinOp.eql 35 _ _ _ rfl rfl _ _ rfl rfl ggt_set _ (HS.out _) ?_)
  go_ret
  exact ⟨rfl, one_new _ _⟩
set_option maxHeartbeats 1000000 in
set_option maxRecDepth 100000 in
theorem rm_5_2 (ka : Option Addr) (l kc : Nat) (rule x0 x1 x2 x3 : Int) (R : Nat) (w : World) (_hl : l ≤ 9223372036854775807) (k2 : 2 ≤ l) :
    Calls Try.prog 44 #[.agg #[.int .i64 (5), .slice ka l kc, .int .i64 rule, .int .u64 x0, .int .u64 x1, .int .u64 x2, .int .u64 x3], .int .i64 (R : Int)] w fun e w' => e = .returned (.bool false) ∧ Below w.heap.size w w' := by
  have m0 : ((l : Int) != 0) = true := ibne_yes (by omega)
  have m1 : ((l : Int) != 1) = true := ibne_yes (by omega)
  have m2 : ((l : Int) == 0) = false := ibeq_no (by omega)
  have m3 : ((l : Int) == 1) = false := ibeq_no (by omega)
  have m4 : ¬ (l : Int) < 2 := by omega
  have m5 : (2 : Int) ≤ (l : Int) := by omega
  go_enter Try.func44, Try.ntmps44
  go_wp2
  go_ret
  exact ⟨rfl, one_new _ _⟩
set_option maxHeartbeats 1000000 in
set_option maxRecDepth 100000 in
theorem rm_6_0 (ka : Option Addr) (l kc : Nat) (rule x0 x1 x2 x3 : Int) (R : Nat) (w : World) (_hl : l ≤ 9223372036854775807) (k0 : l = 0) :
    Calls Try.prog 44 #[.agg #[.int .i64 (6), .slice ka l kc, .int .i64 rule, .int .u64 x0, .int .u64 x1, .int .u64 x2, .int .u64 x3], .int .i64 (R : Int)] w fun e w' => e = .returned (.bool false) ∧ Below w.heap.size w w' := by
  subst k0
  go_enter Try.func44, Try.ntmps44
  go_wp2
  go_ret
  exact ⟨rfl, one_new _ _⟩
set_option maxHeartbeats 1000000 in
set_option maxRecDepth 100000 in
theorem rm_6_1a (ka : Option Addr) (l kc : Nat) (rule x0 x1 x2 x3 : Int) (R : Nat) (w : World) (_hl : l ≤ 9223372036854775807) (k1 : l = 1) (hr : (rule != 0) = true) :
    Calls Try.prog 44 #[.agg #[.int .i64 (6), .slice ka l kc, .int .i64 rule, .int .u64 x0, .int .u64 x1, .int .u64 x2, .int .u64 x3], .int .i64 (R : Int)] w fun e w' => e = .returned (.bool false) ∧ Below w.heap.size w w' := by
  subst k1
  go_enter Try.func44, Try.ntmps44
  go_wp2
  go_ret
  exact ⟨rfl, one_new _ _⟩
set_option maxHeartbeats 1000000 in
set_option maxRecDepth 100000 in
theorem rm_6_1s (ka : Option Addr) (l kc : Nat) (rule x0 x1 x2 x3 : Int) (R : Nat) (w : World) (_hl : l ≤ 9223372036854775807) (k1 : l = 1) (hr : (rule != 0) = false) (hz : (x0 == 0 && (x1 == 0 && (x2 == 0 && x3 == 0))) = false) :
    Calls Try.prog 44 #[.agg #[.int .i64 (6), .slice ka l kc, .int .i64 rule, .int .u64 x0, .int .u64 x1, .int .u64 x2, .int .u64 x3], .int .i64 (R : Int)] w fun e w' => e = .returned (.bool false) ∧ Below w.heap.size w w' := by
  have HS : Hid (∀ w, (binOp .eql 35 (.agg #[.int .u64 x0, .int .u64 x1, .int .u64 x2, .int .u64 x3]) (.agg #[.int .u64 0, .int .u64 0, .int .u64 0, .int .u64 0])).run Try.prog w = .ok (.bool false) w) := Lib.hid fun w => by rw [geql_set, hz]
  clear hz
  subst k1
  go_enter Try.func44, Try.ntmps44
  go_wp2_with (with_reducible refine gwpList_agg BinOp.eql 35 _ _ _ rfl rfl _ _ rfl rfl ggt_set _ (HS.out _) ?_)
  go_ret
  exact ⟨rfl, one_new _ _⟩
set_option maxHeartbeats 1000000 in
set_option maxRecDepth 100000 in
theorem rm_6_1 (ka : Option Addr) (l kc : Nat) (rule x0 x1 x2 x3 : Int) (R : Nat) (w : World) (_hl : l ≤ 9223372036854775807) (k1 : l = 1) (hr : (rule != 0) = false) (hz : (x0 == 0 && (x1 == 0 && (x2 == 0 && x3 == 0))) = true) :
    Calls Try.prog 44 #[.agg #[.int .i64 (6), .slice ka l kc, .int .i64 rule, .int .u64 x0, .int .u64 x1, .int .u64 x2, .int .u64 x3], .int .i64 (R : Int)] w fun e w' => e = .returned (.bool true) ∧ Below w.heap.size w w' := by
  have HS : Hid (∀ w, (binOp .eql 35 (.agg #[.int .u64 x0, .int .u64 x1, .int .u64 x2, .int .u64 x3]) (.agg #[.int .u64 0, .int .u64 0, .int .u64 0, .int .u64 0])).run Try.prog w = .ok (.bool true) w) := Lib.hid fun w => by rw [geql_set, hz]
  clear hz
  subst k1
  go_enter Try.func44, Try.ntmps44
  go_wp2_with (with_reducible refine gwpList_agg BinOp.eql 35 _ _ _ rfl rfl _ _ rfl rfl ggt_set _ (HS.out _) ?_)
  go_ret
  exact ⟨rfl, one_new _ _⟩
set_option maxHeartbeats 1000000 in
set_option maxRecDepth 100000 in
theorem rm_6_2 (ka : Option Addr) (l kc : Nat) (rule x0 x1 x2 x3 : Int) (R : Nat) (w : World) (_hl : l ≤ 9223372036854775807) (k2 : 2 ≤ l) :
    Calls Try.prog 44 #[.agg #[.int .i64 (6), .slice ka l kc, .int .i64 rule, .int .u64 x0, .int .u64 x1, .int .u64 x2, .int .u64 x3], .int .i64 (R : Int)] w fun e w' => e = .returned (.bool false) ∧ Below w.heap.size w w' := by
  have m0 : ((l : Int) != 0) = true := ibne_yes (by omega)
  have m1 : ((l : Int) != 1) = true := ibne_yes (by omega)
  have m2 : ((l : Int) == 0) = false := ibeq_no (by omega)
  have m3 : ((l : Int) == 1) = false := ibeq_no (by omega)
  have m4 : ¬ (l : Int) < 2 := by omega
  have m5 : (2 : Int) ≤ (l : Int) := by omega
  go_enter Try.func44, Try.ntmps44
  go_wp2
  go_ret
  exact ⟨rfl, one_new _ _⟩
set_option maxHeartbeats 1000000 in
set_option maxRecDepth 100000 in
theorem rm_7_0 (ka : Option Addr) (l kc : Nat) (rule x0 x1 x2 x3 : Int) (R : Nat) (w : World) (_hl : l ≤ 9223372036854775807) (k0 : l = 0) :
    Calls Try.prog 44 #[.agg #[.int .i64 (7), .slice ka l kc, .int .i64 rule, .int .u64 x0, .int .u64 x1, .int .u64 x2, .int .u64 x3], .int .i64 (R : Int)] w fun e w' => e = .returned (.bool false) ∧ Below w.heap.size w w' := by
  subst k0
  go_enter Try.func44, Try.ntmps44
  go_wp2
  go_ret
  exact ⟨rfl, one_new _ _⟩
set_option maxHeartbeats 1000000 in
set_option maxRecDepth 100000 in
theorem rm_7_1a (ka : Option Addr) (l kc : Nat) (rule x0 x1 x2 x3 : Int) (R : Nat) (w : World) (_hl : l ≤ 9223372036854775807) (k1 : l = 1) (hr : (rule != 0) = true) :
    Calls Try.prog 44 #[.agg #[.int .i64 (7), .slice ka l kc, .int .i64 rule, .int .u64 x0, .int .u64 x1, .int .u64 x2, .int .u64 x3], .int .i64 (R : Int)] w fun e w' => e = .returned (.bool false) ∧ Below w.heap.size w w' := by
  subst k1
  go_enter Try.func44, Try.ntmps44
  go_wp2
  go_ret
  exact ⟨rfl, one_new _ _⟩
set_option maxHeartbeats 1000000 in
set_option maxRecDepth 100000 in
theorem rm_7_1s (ka : Option Addr) (l kc : Nat) (rule x0 x1 x2 x3 : Int) (R : Nat) (w : World) (_hl : l ≤ 9223372036854775807) (k1 : l = 1) (hr : (rule != 0) = false) (hz : (x0 == 0 && (x1 == 0 && (x2 == 0 && x3 == 0))) = false) :
    Calls Try.prog 44 #[.agg #[.int .i64 (7), .slice ka l kc, .int .i64 rule, .int .u64 x0, .int .u64 x1, .int .u64 x2, .int .u64 x3], .int .i64 (R : Int)] w fun e w' => e = .returned (.bool false) ∧ Below w.heap.size w w' := by
  have HS : Hid (∀ w, (binOp .eql 35 (.agg #[.int .u64 x0, .int .u64 x1, .int .u64 x2, .int .u64 x3]) (.agg #[.int .u64 0, .int .u64 0, .int .u64 0, .int .u64 0])).run Try.prog w = .ok (.bool false) w) := Lib.hid fun w => by rw [geql_set, hz]
  clear hz
  subst k1
  go_enter Try.func44, Try.ntmps44
  go_wp2_with (with_reducible refine gwpList_agg BinOp.eql 35 _ _ _ rfl rfl _ _ rfl rfl ggt_set _ (HS.out _) ?_)
  go_ret
  exact ⟨rfl, one_new _ _⟩
set_option maxHeartbeats 1000000 in
set_option maxRecDepth 100000 in
theorem rm_7_1 (ka : Option Addr) (l kc : Nat) (rule x0 x1 x2 x3 : Int) (R : Nat) (w : World) (_hl : l ≤ 9223372036854775807) (k1 : l = 1) (hr : (rule != 0) = false) (hz : (x0 == 0 && (x1 == 0 && (x2 == 0 && x3 == 0))) = true) :
    Calls Try.prog 44 #[.agg #[.int .i64 (7), .slice ka l kc, .int .i64 rule, .int .u64 x0, .int .u64 x1, .int .u64 x2, .int .u64 x3], .int .i64 (R : Int)] w fun e w' => e = .returned (.bool true) ∧ Below w.heap.size w w' := by
  have HS : Hid (∀ w, (binOp .eql 35 (.agg #[.int .u64 x0, .int .u64 x1, .int .u64 x2, .int .u64 x3]) (.agg #[.int .u64 0, .int .u64 0, .int .u64 0, .int .u64 0])).run Try.prog w = .ok (.bool true) w) := Lib.hid fun w => by rw [geql_set, hz]
  clear hz
  subst k1
  go_enter Try.func44, Try.ntmps44
  go_wp2_with (with_reducible refine gwpList_agg BinOp.eql 35 _ _ _ rfl rfl _ _ rfl rfl ggt_set _ (HS.out _) ?_)
  go_ret
  exact ⟨rfl, one_new _ _⟩
set_option maxHeartbeats 1000000 in
set_option maxRecDepth 100000 in
theorem rm_7_2 (ka : Option Addr) (l kc : Nat) (rule x0 x1 x2 x3 : Int) (R : Nat) (w : World) (_hl : l ≤ 9223372036854775807) (k2 : 2 ≤ l) :
    Calls Try.prog 44 #[.agg #[.int .i64 (7), .slice ka l kc, .int .i64 rule, .int .u64 x0, .int .u64 x1, .int .u64 x2, .int .u64 x3], .int .i64 (R : Int)] w fun e w' => e = .returned (.bool false) ∧ Below w.heap.size w w' := by
  have m0 : ((l : Int) != 0) = true := ibne_yes (by omega)
  have m1 : ((l : Int) != 1) = true := ibne_yes (by omega)
  have m2 : ((l : Int) == 0) = false := ibeq_no (by omega)
  have m3 : ((l : Int) == 1) = false := ibeq_no (by omega)
  have m4 : ¬ (l : Int) < 2 := by omega
  have m5 : (2 : Int) ≤ (l : Int) := by omega
  go_enter Try.func44, Try.ntmps44
  go_wp2
  go_ret
  exact ⟨rfl, one_new _ _⟩
set_option maxHeartbeats 1000000 in
set_option maxRecDepth 100000 in
theorem rm_8_0 (ka : Option Addr) (l kc : Nat) (rule x0 x1 x2 x3 : Int) (R : Nat) (w : World) (_hl : l ≤ 9223372036854775807) (k0 : l = 0) :
    Calls Try.prog 44 #[.agg #[.int .i64 (8), .slice ka l kc, .int .i64 rule, .int .u64 x0, .int .u64 x1, .int .u64 x2, .int .u64 x3], .int .i64 (R : Int)] w fun e w' => e = .returned (.bool false) ∧ Below w.heap.size w w' := by
  subst k0
  go_enter Try.func44, Try.ntmps44
  go_wp2
  go_ret
  exact ⟨rfl, one_new _ _⟩
set_option maxHeartbeats 1000000 in
set_option maxRecDepth 100000 in
theorem rm_8_1a (ka : Option Addr) (l kc : Nat) (rule x0 x1 x2 x3 : Int) (R : Nat) (w : World) (_hl : l ≤ 9223372036854775807) (k1 : l = 1) (hr : (rule != 0) = true) :
    Calls Try.prog 44 #[.agg #[.int .i64 (8), .slice ka l kc, .int .i64 rule, .int .u64 x0, .int .u64 x1, .int .u64 x2, .int .u64 x3], .int .i64 (R : Int)] w fun e w' => e = .returned (.bool false) ∧ Below w.heap.size w w' := by
  subst k1
  go_enter Try.func44, Try.ntmps44
  go_wp2
  go_ret
  exact ⟨rfl, one_new _ _⟩
set_option maxHeartbeats 1000000 in
set_option maxRecDepth 100000 in
theorem rm_8_1s (ka : Option Addr) (l kc : Nat) (rule x0 x1 x2 x3 : Int) (R : Nat) (w : World) (_hl : l ≤ 9223372036854775807) (k1 : l = 1) (hr : (rule != 0) = false) (hz : (x0 == 0 && (x1 == 0 && (x2 == 0 && x3 == 0))) = false) :
    Calls Try.prog 44 #[.agg #[.int .i64 (8), .slice ka l kc, .int .i64 rule, .int .u64 x0, .int .u64 x1, .int .u64 x2, .int .u64 x3], .int .i64 (R : Int)] w fun e w' => e = .returned (.bool false) ∧ Below w.heap.size w w' := by
  have HS : Hid (∀ w, (binOp .eql 35 (.agg #[.int .u64 x0, .int .u64 x1, .int .u64 x2, .int .u64 x3]) (.agg #[.int .u64 0, .int .u64 0, .int .u64 0, .int .u64 0])).run Try.prog w = .ok (.bool false) w) := Lib.hid fun w => by rw [geql_set, hz]
  clear hz
  subst k1
  go_enter Try.func44, Try.ntmps44
  go_wp2_with (with_reducible refine gwpList_agg BinOp.eql 35 _ _ _ rfl rfl _ _ rfl rfl ggt_set _ (HS.out _) ?_)
  go_ret
  exact ⟨rfl, one_new _ _⟩
set_option maxHeartbeats 1000000 in
set_option maxRecDepth 100000 in
theorem rm_8_1 (ka : Option Addr) (l kc : Nat) (rule x0 x1 x2 x3 : Int) (R : Nat) (w : World) (_hl : l ≤ 9223372036854775807) (k1 : l = 1) (hr : (rule != 0) = false) (hz : (x0 == 0 && (x1 == 0 && (x2 == 0 && x3 == 0))) = true) :
    Calls Try.prog 44 #[.agg #[.int .i64 (8), .slice ka l kc, .int .i64 rule, .int .u64 x0, .int .u64 x1, .int .u64 x2, .int .u64 x3], .int .i64 (R : Int)] w fun e w' => e = .returned (.bool true) ∧ Below w.heap.size w w' := by
  have HS : Hid (∀ w, (binOp .eql 35 (.agg #[.int .u64 x0, .int .u64 x1, .int .u64 x2, .int .u64 x3]) (.agg #[.int .u64 0, .int .u64 0, .int .u64 0, .int .u64 0])).run Try.prog w = .ok (.bool true) w) := Lib.hid fun w => by rw [geql_set, hz]
  clear hz
  subst k1
  go_enter Try.func44, Try.ntmps44
  go_wp2_with (with_reducible refine gwpList_agg BinOp.eql 35 _ _ _ rfl rfl _ _ rfl rfl ggt_set _ (HS.out _) ?_)
  go_ret
  exact ⟨rfl, one_new _ _⟩
set_option maxHeartbeats 1000000 in
set_option maxRecDepth 100000 in
theorem rm_8_2 (ka : Option Addr) (l kc : Nat) (rule x0 x1 x2 x3 : Int) (R : Nat) (w : World) (_hl : l ≤ 9223372036854775807) (k2 : 2 ≤ l) :
    Calls Try.prog 44 #[.agg #[.int .i64 (8), .slice ka l kc, .int .i64 rule, .int .u64 x0, .int .u64 x1, .int .u64 x2, .int .u64 x3], .int .i64 (R : Int)] w fun e w' => e = .returned (.bool false) ∧ Below w.heap.size w w' := by
  have m0 : ((l : Int) != 0) = true := ibne_yes (by omega)
  have m1 : ((l : Int) != 1) = true := ibne_yes (by omega)
  have m2 : ((l : Int) == 0) = false := ibeq_no (by omega)
  have m3 : ((l : Int) == 1) = false := ibeq_no (by omega)
  have m4 : ¬ (l : Int) < 2 := by omega
  have m5 : (2 : Int) ≤ (l : Int) := by omega
  go_enter Try.func44, Try.ntmps44
  go_wp2
  go_ret
  exact ⟨rfl, one_new _ _⟩
set_option maxHeartbeats 1000000 in
set_option maxRecDepth 100000 in
theorem rm_9_0 (ka : Option Addr) (l kc : Nat) (rule x0 x1 x2 x3 : Int) (R : Nat) (w : World) (_hl : l ≤ 9223372036854775807) (k0 : l = 0) :
    Calls Try.prog 44 #[.agg #[.int .i64 (9), .slice ka l kc, .int .i64 rule, .int .u64 x0, .int .u64 x1, .int .u64 x2, .int .u64 x3], .int .i64 (R : Int)] w fun e w' => e = .returned (.bool false) ∧ Below w.heap.size w w' := by
  subst k0
  go_enter Try.func44, Try.ntmps44
  go_wp2
  go_ret
  exact ⟨rfl, one_new _ _⟩
set_option maxHeartbeats 1000000 in
set_option maxRecDepth 100000 in
theorem rm_9_1a (ka : Option Addr) (l kc : Nat) (rule x0 x1 x2 x3 : Int) (R : Nat) (w : World) (_hl : l ≤ 9223372036854775807) (k1 : l = 1) (hr : (rule != 0) = true) :
    Calls Try.prog 44 #[.agg #[.int .i64 (9), .slice ka l kc, .int .i64 rule, .int .u64 x0, .int .u64 x1, .int .u64 x2, .int .u64 x3], .int .i64 (R : Int)] w fun e w' => e = .returned (.bool false) ∧ Below w.heap.size w w' := by
  subst k1
  go_enter Try.func44, Try.ntmps44
  go_wp2
  go_ret
  exact ⟨rfl, one_new _ _⟩
set_option maxHeartbeats 1000000 in
set_option maxRecDepth 100000 in
theorem rm_9_1s (ka : Option Addr) (l kc : Nat) (rule x0 x1 x2 x3 : Int) (R : Nat) (w : World) (_hl : l ≤ 9223372036854775807) (k1 : l = 1) (hr : (rule != 0) = false) (hz : (x0 == 0 && (x1 == 0 && (x2 == 0 && x3 == 0))) = false) :
    Calls Try.prog 44 #[.agg #[.int .i64 (9), .slice ka l kc, .int .i64 rule, .int .u64 x0, .int .u64 x1, .int .u64 x2, .int .u64 x3], .int .i64 (R : Int)] w fun e w' => e = .returned (.bool false) ∧ Below w.heap.size w w' := by
  have HS : Hid (∀ w, (binOp .eql 35 (.agg #[.int .u64 x0, .int .u64 x1, .int .u64 x2, .int .u64 x3]) (.agg #[.int .u64 0, .int .u64 0, .int .u64 0, .int .u64 0])).run Try.prog w = .ok (.bool false) w) := Lib.hid fun w => by rw [geql_set, hz]
  clear hz
  subst k1
  go_enter Try.func44, Try.ntmps44
  go_wp2_with (with_reducible refine gwpList_agg BinOp.eql 35 _ _ _ rfl rfl _ _ rfl rfl ggt_set _ (HS.out _) ?_)
  go_ret
  exact ⟨rfl, one_new _ _⟩
set_option maxHeartbeats 1000000 in
set_option maxRecDepth 100000 in
theorem rm_9_1 (ka : Option Addr) (l kc : Nat) (rule x0 x1 x2 x3 : Int) (R : Nat) (w : World) (_hl : l ≤ 9223372036854775807) (k1 : l = 1) (hr : (rule != 0) = false) (hz : (x0 == 0 && (x1 == 0 && (x2 == 0 && x3 == 0))) = true) :
    Calls Try.prog 44 #[.agg #[.int .i64 (9), .slice ka l kc, .int .i64 rule, .int .u64 x0, .int .u64 x1, .int .u64 x2, .int .u64 x3], .int .i64 (R : Int)] w fun e w' => e = .returned (.bool true) ∧ Below w.heap.size w w' := by
  have HS : Hid (∀ w, (binOp .eql 35 (.agg #[.int .u64 x0, .int .u64 x1, .int .u64 x2, .int .u64 x3]) (.agg #[.int .u64 0, .int .u64 0, .int .u64 0, .int .u64 0])).run Try.prog w = .ok (.bool true) w) := Lib.hid fun w => by rw [geql_set, hz]
  clear hz
  subst k1
  go_enter Try.func44, Try.ntmps44
  go_wp2_with (with_reducible refine gwpList_agg BinOp.eql 35 _ _ _ rfl rfl _ _ rfl rfl ggt_set _ (HS.out _) ?_)
  go_ret
  exact ⟨rfl, one_new _ _⟩
set_option maxHeartbeats 1000000 in
set_option maxRecDepth 100000 in
theorem rm_9_2 (ka : Option Addr) (l kc : Nat) (rule x0 x1 x2 x3 : Int) (R : Nat) (w : World) (_hl : l ≤ 9223372036854775807) (k2 : 2 ≤ l) :
    Calls Try.prog 44 #[.agg #[.int .i64 (9), .slice ka l kc, .int .i64 rule, .int .u64 x0, .int .u64 x1, .int .u64 x2, .int .u64 x3], .int .i64 (R : Int)] w fun e w' => e = .returned (.bool false) ∧ Below w.heap.size w w' := by
  have m0 : ((l : Int) != 0) = true := ibne_yes (by omega)
  have m1 : ((l : Int) != 1) = true := ibne_yes (by omega)
  have m2 : ((l : Int) == 0) = false := ibeq_no (by omega)
  have m3 : ((l : Int) == 1) = false := ibeq_no (by omega)
  have m4 : ¬ (l : Int) < 2 := by omega
  have m5 : (2 : Int) ≤ (l : Int) := by omega
  go_enter Try.func44, Try.ntmps44
  go_wp2
  go_ret
  exact ⟨rfl, one_new _ _⟩
set_option maxHeartbeats 1000000 in
theorem rm_any (op : Int) (ka : Option Addr) (l kc : Nat) (rule x0 x1 x2 x3 : Int) (R : Nat) (w : World) (hl : l ≤ 9223372036854775807) :
    Calls Try.prog 44 #[.agg #[.int .i64 op, .slice ka l kc, .int .i64 rule, .int .u64 x0, .int .u64 x1, .int .u64 x2, .int .u64 x3], .int .i64 (R : Int)] w fun e w' => e = .returned (.bool (made5 op l rule R (x0 == 0 && (x1 == 0 && (x2 == 0 && x3 == 0))))) ∧ Below w.heap.size w w' := by
  have hrr : rule = 0 ∨ rule ≠ 0 := by omega
  have hk : l = 0 ∨ l = 1 ∨ 2 ≤ l := by omega
  by_cases h0 : op < 0
  · rw [made5_low h0]; exact rm_low op ka l kc rule x0 x1 x2 x3 R w hl h0
  by_cases h9 : 9 < op
  · rw [made5_high h9]; exact rm_high op ka l kc rule x0 x1 x2 x3 R w hl h9 h0
  have h10 : op = 0 ∨ op = 1 ∨ op = 2 ∨ op = 3 ∨ op = 4 ∨ op = 5 ∨ op = 6 ∨ op = 7 ∨ op = 8 ∨ op = 9 := by omega
  clear h0 h9
  rcases h10 with rfl | rfl | rfl | rfl | rfl | rfl | rfl | rfl | rfl | rfl
  · cases hz : (x0 == 0 && (x1 == 0 && (x2 == 0 && x3 == 0))) with
    | false =>
      rcases hk with hk | hk | hk
      · rcases hrr with hr | hr
        · rw [made5_set (by omega)]; exact rm_0_0s ka l kc rule x0 x1 x2 x3 R w hl hk (by subst hr; rfl) hz
        · rw [made5_rule (by omega) hr]; exact rm_0_0a ka l kc rule x0 x1 x2 x3 R w hl hk (ibne_yes hr)
      · rw [made5_none (by omega) (by omega)]; exact rm_0_1 ka l kc rule x0 x1 x2 x3 R w hl hk
      · rw [made5_none (by omega) (by omega)]; exact rm_0_2 ka l kc rule x0 x1 x2 x3 R w hl hk
    | true =>
      rcases hk with hk | hk | hk
      · rcases hrr with hr | hr
        · rw [made5_yes (by omega) (by omega) (by omega) (by omega) (by first | exact Or.inr rfl | exact Or.inl rfl)]; exact rm_0_0 ka l kc rule x0 x1 x2 x3 R w hl hk (by subst hr; rfl) hz
        · rw [made5_rule (by omega) hr]; exact rm_0_0a ka l kc rule x0 x1 x2 x3 R w hl hk (ibne_yes hr)
      · rw [made5_none (by omega) (by omega)]; exact rm_0_1 ka l kc rule x0 x1 x2 x3 R w hl hk
      · rw [made5_none (by omega) (by omega)]; exact rm_0_2 ka l kc rule x0 x1 x2 x3 R w hl hk
  · cases hz : (x0 == 0 && (x1 == 0 && (x2 == 0 && x3 == 0))) with
    | false =>
      rcases hk with hk | hk | hk
      · rcases hrr with hr | hr
        · rw [made5_yes (by omega) (by omega) (by omega) (by omega) (by first | exact Or.inr rfl | exact Or.inl rfl)]; exact rm_1_0 ka l kc rule x0 x1 x2 x3 R w hl hk (by subst hr; rfl)
        · rw [made5_rule (by omega) hr]; exact rm_1_0a ka l kc rule x0 x1 x2 x3 R w hl hk (ibne_yes hr)
      · rw [made5_none (by omega) (by omega)]; exact rm_1_1 ka l kc rule x0 x1 x2 x3 R w hl hk
      · rw [made5_none (by omega) (by omega)]; exact rm_1_2 ka l kc rule x0 x1 x2 x3 R w hl hk
    | true =>
      rcases hk with hk | hk | hk
      · rcases hrr with hr | hr
        · rw [made5_yes (by omega) (by omega) (by omega) (by omega) (by first | exact Or.inr rfl | exact Or.inl rfl)]; exact rm_1_0 ka l kc rule x0 x1 x2 x3 R w hl hk (by subst hr; rfl)
        · rw [made5_rule (by omega) hr]; exact rm_1_0a ka l kc rule x0 x1 x2 x3 R w hl hk (ibne_yes hr)
      · rw [made5_none (by omega) (by omega)]; exact rm_1_1 ka l kc rule x0 x1 x2 x3 R w hl hk
      · rw [made5_none (by omega) (by omega)]; exact rm_1_2 ka l kc rule x0 x1 x2 x3 R w hl hk
  · cases hz : (x0 == 0 && (x1 == 0 && (x2 == 0 && x3 == 0))) with
    | false =>
      rcases hk with hk | hk | hk
      · by_cases hr : rule < 0
        · rw [made5_call (by omega)]; exact rm_2_0a ka l kc rule x0 x1 x2 x3 R w hl hk hr
        · by_cases hR : (R : Int) ≤ rule
          · rw [made5_call (by omega)]; exact rm_2_0b ka l kc rule x0 x1 x2 x3 R w hl hk hr hR
          · rw [made5_set (by omega)]; exact rm_2_0s ka l kc rule x0 x1 x2 x3 R w hl hk hr hR hz
      · rw [made5_none (by omega) (by omega)]; exact rm_2_1 ka l kc rule x0 x1 x2 x3 R w hl hk
      · rw [made5_none (by omega) (by omega)]; exact rm_2_2 ka l kc rule x0 x1 x2 x3 R w hl hk
    | true =>
      rcases hk with hk | hk | hk
      · by_cases hr : rule < 0
        · rw [made5_call (by omega)]; exact rm_2_0a ka l kc rule x0 x1 x2 x3 R w hl hk hr
        · by_cases hR : (R : Int) ≤ rule
          · rw [made5_call (by omega)]; exact rm_2_0b ka l kc rule x0 x1 x2 x3 R w hl hk hr hR
          · rw [made5_yes (by omega) (by omega) (by omega) (by omega) (by first | exact Or.inr rfl | exact Or.inl rfl)]; exact rm_2_0 ka l kc rule x0 x1 x2 x3 R w hl hk hr hR hz
      · rw [made5_none (by omega) (by omega)]; exact rm_2_1 ka l kc rule x0 x1 x2 x3 R w hl hk
      · rw [made5_none (by omega) (by omega)]; exact rm_2_2 ka l kc rule x0 x1 x2 x3 R w hl hk
  · cases hz : (x0 == 0 && (x1 == 0 && (x2 == 0 && x3 == 0))) with
    | false =>
      rcases hk with hk | hk | hk
      · rw [made5_many (by omega) (by omega)]; exact rm_3_0 ka l kc rule x0 x1 x2 x3 R w hl hk
      · rw [made5_many (by omega) (by omega)]; exact rm_3_1 ka l kc rule x0 x1 x2 x3 R w hl hk
      · rcases hrr with hr | hr
        · rw [made5_set (by omega)]; exact rm_3_2s ka l kc rule x0 x1 x2 x3 R w hl hk (by subst hr; rfl) hz
        · rw [made5_rule (by omega) hr]; exact rm_3_2a ka l kc rule x0 x1 x2 x3 R w hl hk (ibne_yes hr)
    | true =>
      rcases hk with hk | hk | hk
      · rw [made5_many (by omega) (by omega)]; exact rm_3_0 ka l kc rule x0 x1 x2 x3 R w hl hk
      · rw [made5_many (by omega) (by omega)]; exact rm_3_1 ka l kc rule x0 x1 x2 x3 R w hl hk
      · rcases hrr with hr | hr
        · rw [made5_yes (by omega) (by omega) (by omega) (by omega) (by first | exact Or.inr rfl | exact Or.inl rfl)]; exact rm_3_2 ka l kc rule x0 x1 x2 x3 R w hl hk (by subst hr; rfl) hz
        · rw [made5_rule (by omega) hr]; exact rm_3_2a ka l kc rule x0 x1 x2 x3 R w hl hk (ibne_yes hr)
  · cases hz : (x0 == 0 && (x1 == 0 && (x2 == 0 && x3 == 0))) with
    | false =>
      rcases hk with hk | hk | hk
      · rw [made5_many (by omega) (by omega)]; exact rm_4_0 ka l kc rule x0 x1 x2 x3 R w hl hk
      · rw [made5_many (by omega) (by omega)]; exact rm_4_1 ka l kc rule x0 x1 x2 x3 R w hl hk
      · rcases hrr with hr | hr
        · rw [made5_set (by omega)]; exact rm_4_2s ka l kc rule x0 x1 x2 x3 R w hl hk (by subst hr; rfl) hz
        · rw [made5_rule (by omega) hr]; exact rm_4_2a ka l kc rule x0 x1 x2 x3 R w hl hk (ibne_yes hr)
    | true =>
      rcases hk with hk | hk | hk
      · rw [made5_many (by omega) (by omega)]; exact rm_4_0 ka l kc rule x0 x1 x2 x3 R w hl hk
      · rw [made5_many (by omega) (by omega)]; exact rm_4_1 ka l kc rule x0 x1 x2 x3 R w hl hk
      · rcases hrr with hr | hr
        · rw [made5_yes (by omega) (by omega) (by omega) (by omega) (by first | exact Or.inr rfl | exact Or.inl rfl)]; exact rm_4_2 ka l kc rule x0 x1 x2 x3 R w hl hk (by subst hr; rfl) hz
        · rw [made5_rule (by omega) hr]; exact rm_4_2a ka l kc rule x0 x1 x2 x3 R w hl hk (ibne_yes hr)
  · cases hz : (x0 == 0 && (x1 == 0 && (x2 == 0 && x3 == 0))) with
    | false =>
      rcases hk with hk | hk | hk
      · rw [made5_one (by omega) (by omega)]; exact rm_5_0 ka l kc rule x0 x1 x2 x3 R w hl hk
      · rcases hrr with hr | hr
        · rw [made5_set (by omega)]; exact rm_5_1s ka l kc rule x0 x1 x2 x3 R w hl hk (by subst hr; rfl) hz
        · rw [made5_rule (by omega) hr]; exact rm_5_1a ka l kc rule x0 x1 x2 x3 R w hl hk (ibne_yes hr)
      · rw [made5_one (by omega) (by omega)]; exact rm_5_2 ka l kc rule x0 x1 x2 x3 R w hl hk
    | true =>
      rcases hk with hk | hk | hk
      · rw [made5_one (by omega) (by omega)]; exact rm_5_0 ka l kc rule x0 x1 x2 x3 R w hl hk
      · rcases hrr with hr | hr
        · rw [made5_yes (by omega) (by omega) (by omega) (by omega) (by first | exact Or.inr rfl | exact Or.inl rfl)]; exact rm_5_1 ka l kc rule x0 x1 x2 x3 R w hl hk (by subst hr; rfl) hz
        · rw [made5_rule (by omega) hr]; exact rm_5_1a ka l kc rule x0 x1 x2 x3 R w hl hk (ibne_yes hr)
      · rw [made5_one (by omega) (by omega)]; exact rm_5_2 ka l kc rule x0 x1 x2 x3 R w hl hk
  · cases hz : (x0 == 0 && (x1 == 0 && (x2 == 0 && x3 == 0))) with
    | false =>
      rcases hk with hk | hk | hk
      · rw [made5_one (by omega) (by omega)]; exact rm_6_0 ka l kc rule x0 x1 x2 x3 R w hl hk
      · rcases hrr with hr | hr
        · rw [made5_set (by omega)]; exact rm_6_1s ka l kc rule x0 x1 x2 x3 R w hl hk (by subst hr; rfl) hz
        · rw [made5_rule (by omega) hr]; exact rm_6_1a ka l kc rule x0 x1 x2 x3 R w hl hk (ibne_yes hr)
      · rw [made5_one (by omega) (by omega)]; exact rm_6_2 ka l kc rule x0 x1 x2 x3 R w hl hk
    | true =>
      rcases hk with hk | hk | hk
      · rw [made5_one (by omega) (by omega)]; exact rm_6_0 ka l kc rule x0 x1 x2 x3 R w hl hk
      · rcases hrr with hr | hr
        · rw [made5_yes (by omega) (by omega) (by omega) (by omega) (by first | exact Or.inr rfl | exact Or.inl rfl)]; exact rm_6_1 ka l kc rule x0 x1 x2 x3 R w hl hk (by subst hr; rfl) hz
        · rw [made5_rule (by omega) hr]; exact rm_6_1a ka l kc rule x0 x1 x2 x3 R w hl hk (ibne_yes hr)
      · rw [made5_one (by omega) (by omega)]; exact rm_6_2 ka l kc rule x0 x1 x2 x3 R w hl hk
  · cases hz : (x0 == 0 && (x1 == 0 && (x2 == 0 && x3 == 0))) with
    | false =>
      rcases hk with hk | hk | hk
      · rw [made5_one (by omega) (by omega)]; exact rm_7_0 ka l kc rule x0 x1 x2 x3 R w hl hk
      · rcases hrr with hr | hr
        · rw [made5_set (by omega)]; exact rm_7_1s ka l kc rule x0 x1 x2 x3 R w hl hk (by subst hr; rfl) hz
        · rw [made5_rule (by omega) hr]; exact rm_7_1a ka l kc rule x0 x1 x2 x3 R w hl hk (ibne_yes hr)
      · rw [made5_one (by omega) (by omega)]; exact rm_7_2 ka l kc rule x0 x1 x2 x3 R w hl hk
    | true =>
      rcases hk with hk | hk | hk
      · rw [made5_one (by omega) (by omega)]; exact rm_7_0 ka l kc rule x0 x1 x2 x3 R w hl hk
      · rcases hrr with hr | hr
        · rw [made5_yes (by omega) (by omega) (by omega) (by omega) (by first | exact Or.inr rfl | exact Or.inl rfl)]; exact rm_7_1 ka l kc rule x0 x1 x2 x3 R w hl hk (by subst hr; rfl) hz
        · rw [made5_rule (by omega) hr]; exact rm_7_1a ka l kc rule x0 x1 x2 x3 R w hl hk (ibne_yes hr)
      · rw [made5_one (by omega) (by omega)]; exact rm_7_2 ka l kc rule x0 x1 x2 x3 R w hl hk
  · cases hz : (x0 == 0 && (x1 == 0 && (x2 == 0 && x3 == 0))) with
    | false =>
      rcases hk with hk | hk | hk
      · rw [made5_one (by omega) (by omega)]; exact rm_8_0 ka l kc rule x0 x1 x2 x3 R w hl hk
      · rcases hrr with hr | hr
        · rw [made5_set (by omega)]; exact rm_8_1s ka l kc rule x0 x1 x2 x3 R w hl hk (by subst hr; rfl) hz
        · rw [made5_rule (by omega) hr]; exact rm_8_1a ka l kc rule x0 x1 x2 x3 R w hl hk (ibne_yes hr)
      · rw [made5_one (by omega) (by omega)]; exact rm_8_2 ka l kc rule x0 x1 x2 x3 R w hl hk
    | true =>
      rcases hk with hk | hk | hk
      · rw [made5_one (by omega) (by omega)]; exact rm_8_0 ka l kc rule x0 x1 x2 x3 R w hl hk
      · rcases hrr with hr | hr
        · rw [made5_yes (by omega) (by omega) (by omega) (by omega) (by first | exact Or.inr rfl | exact Or.inl rfl)]; exact rm_8_1 ka l kc rule x0 x1 x2 x3 R w hl hk (by subst hr; rfl) hz
        · rw [made5_rule (by omega) hr]; exact rm_8_1a ka l kc rule x0 x1 x2 x3 R w hl hk (ibne_yes hr)
      · rw [made5_one (by omega) (by omega)]; exact rm_8_2 ka l kc rule x0 x1 x2 x3 R w hl hk
  · cases hz : (x0 == 0 && (x1 == 0 && (x2 == 0 && x3 == 0))) with
    | false =>
      rcases hk with hk | hk | hk
      · rw [made5_one (by omega) (by omega)]; exact rm_9_0 ka l kc rule x0 x1 x2 x3 R w hl hk
      · rcases hrr with hr | hr
        · rw [made5_set (by omega)]; exact rm_9_1s ka l kc rule x0 x1 x2 x3 R w hl hk (by subst hr; rfl) hz
        · rw [made5_rule (by omega) hr]; exact rm_9_1a ka l kc rule x0 x1 x2 x3 R w hl hk (ibne_yes hr)
      · rw [made5_one (by omega) (by omega)]; exact rm_9_2 ka l kc rule x0 x1 x2 x3 R w hl hk
    | true =>
      rcases hk with hk | hk | hk
      · rw [made5_one (by omega) (by omega)]; exact rm_9_0 ka l kc rule x0 x1 x2 x3 R w hl hk
      · rcases hrr with hr | hr
        · rw [made5_yes (by omega) (by omega) (by omega) (by omega) (by first | exact Or.inr rfl | exact Or.inl rfl)]; exact rm_9_1 ka l kc rule x0 x1 x2 x3 R w hl hk (by subst hr; rfl) hz
        · rw [made5_rule (by omega) hr]; exact rm_9_1a ka l kc rule x0 x1 x2 x3 R w hl hk (ibne_yes hr)
      · rw [made5_one (by omega) (by omega)]; exact rm_9_2 ka l kc rule x0 x1 x2 x3 R w hl hk
end Go.Proofs.Ytklimoepkifnhaa
