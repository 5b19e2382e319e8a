/- gram.wellMade and the reference's Made: the same for every node. Written by wip/gen/made.py. -/
import Derived.Test.YtnfjbjmdempafaaPxC
namespace Go.Proofs.Ytnfjbjmdempafaa
open Go.RowKit
/-- A node is well made: its kind, how many kids, its rule, how many rules, whether its set is empty. -/
def made5 (op : Int) (l : Nat) (rule : Int) (R : Nat) (z : Bool) : Bool :=
  decide (0 ≤ op) && decide (op ≤ 9) && (if op ≤ 2 then l == 0 else if op ≤ 4 then decide (2 ≤ l) else l == 1) && (if op = 2 then decide (0 ≤ rule) && decide (rule < R) else rule == 0) && (op == 1 || z)
theorem made5_is (n : PN) (R : Nat) : madeB n R = made5 n.op n.kids.length n.rule R (n.s0 == 0 && n.s1 == 0 && n.s2 == 0 && n.s3 == 0) := rfl
theorem setZ_is (x0 x1 x2 x3 : Int) : (x0 == 0 && x1 == 0 && x2 == 0 && x3 == 0) = (x0 == 0 && (x1 == 0 && (x2 == 0 && x3 == 0))) := by
  rw [Bool.and_assoc, Bool.and_assoc]
theorem made5_low {op : Int} {l : Nat} {rule : Int} {R : Nat} {z : Bool} (h : op < 0) : made5 op l rule R z = false := by
  unfold made5; rw [decide_eq_false (by omega : ¬ 0 ≤ op)]; rfl
theorem made5_high {op : Int} {l : Nat} {rule : Int} {R : Nat} {z : Bool} (h : 9 < op) : made5 op l rule R z = false := by
  unfold made5; rw [decide_eq_false (by omega : ¬ op ≤ 9), Bool.and_false]; rfl
theorem made5_set {op : Int} {l : Nat} {rule : Int} {R : Nat} (h : op ≠ 1) : made5 op l rule R false = false := by
  unfold made5; rw [ibeq_no h]; simp
theorem made5_rule {op : Int} {l : Nat} {rule : Int} {R : Nat} {z : Bool} (h : op ≠ 2) (h2 : rule ≠ 0) : made5 op l rule R z = false := by
  unfold made5; rw [if_neg h, ibeq_no h2]; simp
theorem made5_call {l : Nat} {rule : Int} {R : Nat} {z : Bool} (h : rule < 0 ∨ (R : Int) ≤ rule) : made5 2 l rule R z = false := by
  have : (decide (0 ≤ rule) && decide (rule < (R : Int))) = false := by
    rcases h with h | h
    · rw [decide_eq_false (by omega : ¬ 0 ≤ rule)]; rfl
    · rw [decide_eq_false (by omega : ¬ rule < R), Bool.and_false]
  unfold made5; rw [if_pos rfl, this]; simp
theorem made5_none {op : Int} {l : Nat} {rule : Int} {R : Nat} {z : Bool} (h : op ≤ 2) (h2 : l ≠ 0) : made5 op l rule R z = false := by
  have : (l == 0) = false := by simpa using h2
  unfold made5; rw [if_pos h, this]; simp
theorem made5_many {op : Int} {l : Nat} {rule : Int} {R : Nat} {z : Bool} (h : op = 3 ∨ op = 4) (h2 : l < 2) : made5 op l rule R z = false := by
  unfold made5; rw [if_neg (by omega), if_pos (by omega), decide_eq_false (by omega : ¬ 2 ≤ l)]; simp
theorem made5_one {op : Int} {l : Nat} {rule : Int} {R : Nat} {z : Bool} (h : 5 ≤ op) (h2 : l ≠ 1) : made5 op l rule R z = false := by
  have : (l == 1) = false := by simpa using h2
  unfold made5; rw [if_neg (by omega), if_neg (by omega), this]; simp
theorem made5_yes {op : Int} {l : Nat} {rule : Int} {R : Nat} {z : Bool} (h0 : 0 ≤ op) (h9 : op ≤ 9) (hl : (op ≤ 2 → l = 0) ∧ (2 < op → op ≤ 4 → 2 ≤ l) ∧ (4 < op → l = 1)) (hr : (op = 2 → 0 ≤ rule ∧ rule < R) ∧ (op ≠ 2 → rule = 0)) (hz : op = 1 ∨ z = true) : made5 op l rule R z = true := by
  unfold made5
  have e1 : (if op ≤ 2 then l == 0 else if op ≤ 4 then decide (2 ≤ l) else l == 1) = true := by
    by_cases a : op ≤ 2
    · rw [if_pos a]; simpa using hl.1 a
    · rw [if_neg a]
      by_cases b : op ≤ 4
      · rw [if_pos b]; simpa using hl.2.1 (by omega) b
      · rw [if_neg b]; simpa using hl.2.2 (by omega)
  have e2 : (if op = 2 then decide (0 ≤ rule) && decide (rule < (R : Int)) else rule == 0) = true := by
    by_cases a : op = 2
    · rw [if_pos a]; simpa using hr.1 a
    · rw [if_neg a]; simpa using hr.2 a
  have e3 : (op == 1 || z) = true := by
    rcases hz with h | h
    · subst h; rfl
    · rw [h, Bool.or_true]
  rw [decide_eq_true h0, decide_eq_true h9, e1, e2, e3]; rfl

def z4 (x0 x1 x2 x3 : Int) : Bool := x0 == 0 && (x1 == 0 && (x2 == 0 && x3 == 0))
/-- What the function F says of a node of a kind, with l kids, a rule, a set, among R rules. -/
def PmIs (F : FuncId) (op : Int) (l : Nat) (rule x0 x1 x2 x3 : Int) (R : Nat) (b : Bool) : Prop :=
  ∀ (ka : Option Addr) (kc : Nat) (w : World), l ≤ 9223372036854775807 → Calls Try.prog F #[.agg #[.int .i64 op, .slice ka l kc, .int .i64 rule, .int .u64 x0, .int .u64 x1, .int .u64 x2, .int .u64 x3], .int .i64 (R : Int)] w fun e w' => e = .returned (.bool b) ∧ Below w.heap.size w w'
theorem sne {x0 x1 x2 x3 : Int} {b : Bool} (hz : z4 x0 x1 x2 x3 = b) : Hid (∀ w, (binOp .neq 33 (.agg #[.int .u64 x0, .int .u64 x1, .int .u64 x2, .int .u64 x3]) (.agg #[.int .u64 0, .int .u64 0, .int .u64 0, .int .u64 0])).run Try.prog w = .ok (.bool (!b)) w) := Lib.hid fun w => by
  unfold z4 at hz
  rw [gneq_set, hz]
theorem seq {x0 x1 x2 x3 : Int} {b : Bool} (hz : z4 x0 x1 x2 x3 = b) : Hid (∀ w, (binOp .eql 33 (.agg #[.int .u64 x0, .int .u64 x1, .int .u64 x2, .int .u64 x3]) (.agg #[.int .u64 0, .int .u64 0, .int .u64 0, .int .u64 0])).run Try.prog w = .ok (.bool b) w) := Lib.hid fun w => by
  unfold z4 at hz
  rw [geql_set, hz]
section
variable {l : Nat} {rule x0 x1 x2 x3 : Int} {R : Nat}
set_option maxHeartbeats 1000000
set_option maxRecDepth 100000
theorem two_more {l : Nat} (h : 2 ≤ l) : Hid ((((l : Int) != 0) = true ∧ ((l : Int) != 1) = true ∧ ((l : Int) == 0) = false) ∧ ((l : Int) == 1) = false ∧ ¬ (l : Int) < 2 ∧ (2 : Int) ≤ (l : Int)) := Lib.hid ⟨⟨ibne_yes (by omega), ibne_yes (by omega), ibeq_no (by omega)⟩, ibeq_no (by omega), by omega, by omega⟩
theorem rm_low {op : Int} (hop : op < 0) : PmIs 54 op l rule x0 x1 x2 x3 R false := by
  intro ka kc w _
  go_enter Try.func54, Try.ntmps54
  go_wp2
  go_ret; exact ⟨rfl, one_new _ _⟩
theorem rm_high {op : Int} (hop : 9 < op) (hop0 : ¬ op < 0) : PmIs 54 op l rule x0 x1 x2 x3 R false := by
  intro ka kc w _
  go_enter Try.func54, Try.ntmps54
  go_wp2
  go_ret; exact ⟨rfl, one_new _ _⟩
theorem rm_f0 {op : Int} (ho : op = 3 ∨ op = 4 ∨ op = 5 ∨ op = 6 ∨ op = 7 ∨ op = 8 ∨ op = 9) (k0 : l = 0) : PmIs 54 op l rule x0 x1 x2 x3 R false := by
  intro ka kc w _
  subst k0
  rcases ho with rfl | rfl | rfl | rfl | rfl | rfl | rfl
  all_goals
    go_enter Try.func54, Try.ntmps54
    go_wp2
    go_ret; exact ⟨rfl, one_new _ _⟩
theorem rm_r0 {op : Int} (ho : op = 0 ∨ op = 1) (k0 : l = 0) (hr : (rule != 0) = true) : PmIs 54 op l rule x0 x1 x2 x3 R false := by
  intro ka kc w _
  subst k0
  rcases ho with rfl | rfl
  all_goals
    go_enter Try.func54, Try.ntmps54
    go_wp2
    go_ret; exact ⟨rfl, one_new _ _⟩
theorem rm_s0 (k0 : l = 0) (hr : (rule != 0) = false) (hz : z4 x0 x1 x2 x3 = false) : PmIs 54 0 l rule x0 x1 x2 x3 R false := by
  intro ka kc w _
  have HS := seq hz; clear hz
  subst k0
  go_enter Try.func54, Try.ntmps54
  go_wp2_with (with_reducible refine gwpList_agg BinOp.eql 33 _ _ _ rfl rfl _ _ rfl rfl ggt_set _ (HS.out _) ?_)
  go_ret; exact ⟨rfl, one_new _ _⟩
theorem rm_t0 (k0 : l = 0) (hr : (rule != 0) = false) (hz : z4 x0 x1 x2 x3 = true) : PmIs 54 0 l rule x0 x1 x2 x3 R true := by
  intro ka kc w _
  have HS := seq hz; clear hz
  subst k0
  go_enter Try.func54, Try.ntmps54
  go_wp2_with (with_reducible refine gwpList_agg BinOp.eql 33 _ _ _ rfl rfl _ _ rfl rfl ggt_set _ (HS.out _) ?_)
  go_ret; exact ⟨rfl, one_new _ _⟩
theorem rm_f1 {op : Int} (ho : op = 0 ∨ op = 1 ∨ op = 2 ∨ op = 3 ∨ op = 4) (k1 : l = 1) : PmIs 54 op l rule x0 x1 x2 x3 R false := by
  intro ka kc w _
  subst k1
  rcases ho with rfl | rfl | rfl | rfl | rfl
  all_goals
    go_enter Try.func54, Try.ntmps54
    go_wp2
    go_ret; exact ⟨rfl, one_new _ _⟩
theorem rm_r1 {op : Int} (ho : op = 5 ∨ op = 6 ∨ op = 7 ∨ op = 8 ∨ op = 9) (k1 : l = 1) (hr : (rule != 0) = true) : PmIs 54 op l rule x0 x1 x2 x3 R false := by
  intro ka kc w _
  subst k1
  rcases ho with rfl | rfl | rfl | rfl | rfl
  all_goals
    go_enter Try.func54, Try.ntmps54
    go_wp2
    go_ret; exact ⟨rfl, one_new _ _⟩
theorem rm_s1 {op : Int} (ho : op = 5 ∨ op = 6 ∨ op = 7 ∨ op = 8 ∨ op = 9) (k1 : l = 1) (hr : (rule != 0) = false) (hz : z4 x0 x1 x2 x3 = false) : PmIs 54 op l rule x0 x1 x2 x3 R false := by
  intro ka kc w _
  have HS := seq hz; clear hz
  subst k1
  rcases ho with rfl | rfl | rfl | rfl | rfl
  all_goals
    go_enter Try.func54, Try.ntmps54
    go_wp2_with (with_reducible refine gwpList_agg BinOp.eql 33 _ _ _ rfl rfl _ _ rfl rfl ggt_set _ (HS.out _) ?_)
    go_ret; exact ⟨rfl, one_new _ _⟩
theorem rm_t1 {op : Int} (ho : op = 5 ∨ op = 6 ∨ op = 7 ∨ op = 8 ∨ op = 9) (k1 : l = 1) (hr : (rule != 0) = false) (hz : z4 x0 x1 x2 x3 = true) : PmIs 54 op l rule x0 x1 x2 x3 R true := by
  intro ka kc w _
  have HS := seq hz; clear hz
  subst k1
  rcases ho with rfl | rfl | rfl | rfl | rfl
  all_goals
    go_enter Try.func54, Try.ntmps54
    go_wp2_with (with_reducible refine gwpList_agg BinOp.eql 33 _ _ _ rfl rfl _ _ rfl rfl ggt_set _ (HS.out _) ?_)
    go_ret; exact ⟨rfl, one_new _ _⟩
theorem rm_f2 {op : Int} (ho : op = 0 ∨ op = 1 ∨ op = 2 ∨ op = 5 ∨ op = 6 ∨ op = 7 ∨ op = 8 ∨ op = 9) (k2 : 2 ≤ l) : PmIs 54 op l rule x0 x1 x2 x3 R false := by
  intro ka kc w _
  obtain ⟨⟨m0, m1, m2⟩, m3, m4, m5⟩ := (two_more k2).out
  rcases ho with rfl | rfl | rfl | rfl | rfl | rfl | rfl | rfl
  all_goals
    go_enter Try.func54, Try.ntmps54
    go_wp2
    go_ret; exact ⟨rfl, one_new _ _⟩
theorem rm_r2 {op : Int} (ho : op = 3 ∨ op = 4) (k2 : 2 ≤ l) (hr : (rule != 0) = true) : PmIs 54 op l rule x0 x1 x2 x3 R false := by
  intro ka kc w _
  obtain ⟨⟨m0, m1, m2⟩, m3, m4, m5⟩ := (two_more k2).out
  rcases ho with rfl | rfl
  all_goals
    go_enter Try.func54, Try.ntmps54
    go_wp2
    go_ret; exact ⟨rfl, one_new _ _⟩
theorem rm_s2 {op : Int} (ho : op = 3 ∨ op = 4) (k2 : 2 ≤ l) (hr : (rule != 0) = false) (hz : z4 x0 x1 x2 x3 = false) : PmIs 54 op l rule x0 x1 x2 x3 R false := by
  intro ka kc w _
  have HS := seq hz; clear hz
  obtain ⟨⟨m0, m1, m2⟩, m3, m4, m5⟩ := (two_more k2).out
  rcases ho with rfl | rfl
  all_goals
    go_enter Try.func54, Try.ntmps54
    go_wp2_with (with_reducible refine gwpList_agg BinOp.eql 33 _ _ _ rfl rfl _ _ rfl rfl ggt_set _ (HS.out _) ?_)
    go_ret; exact ⟨rfl, one_new _ _⟩
theorem rm_t2 {op : Int} (ho : op = 3 ∨ op = 4) (k2 : 2 ≤ l) (hr : (rule != 0) = false) (hz : z4 x0 x1 x2 x3 = true) : PmIs 54 op l rule x0 x1 x2 x3 R true := by
  intro ka kc w _
  have HS := seq hz; clear hz
  obtain ⟨⟨m0, m1, m2⟩, m3, m4, m5⟩ := (two_more k2).out
  rcases ho with rfl | rfl
  all_goals
    go_enter Try.func54, Try.ntmps54
    go_wp2_with (with_reducible refine gwpList_agg BinOp.eql 33 _ _ _ rfl rfl _ _ rfl rfl ggt_set _ (HS.out _) ?_)
    go_ret; exact ⟨rfl, one_new _ _⟩
theorem rm_10 (k0 : l = 0) (hr : (rule != 0) = false) : PmIs 54 1 l rule x0 x1 x2 x3 R true := by
  intro ka kc w _
  subst k0
  go_enter Try.func54, Try.ntmps54
  go_wp2
  go_ret; exact ⟨rfl, one_new _ _⟩
theorem rm_2a (k0 : l = 0) (hr : rule < 0) : PmIs 54 2 l rule x0 x1 x2 x3 R false := by
  intro ka kc w _
  subst k0
  go_enter Try.func54, Try.ntmps54
  go_wp2
  go_ret; exact ⟨rfl, one_new _ _⟩
theorem rm_2b (k0 : l = 0) (hr : ¬ rule < 0) (hR : (R : Int) ≤ rule) : PmIs 54 2 l rule x0 x1 x2 x3 R false := by
  intro ka kc w _
  subst k0
  go_enter Try.func54, Try.ntmps54
  go_wp2
  go_ret; exact ⟨rfl, one_new _ _⟩
theorem rm_2s (k0 : l = 0) (hr : ¬ rule < 0) (hR : ¬ (R : Int) ≤ rule) (hz : z4 x0 x1 x2 x3 = false) : PmIs 54 2 l rule x0 x1 x2 x3 R false := by
  intro ka kc w _
  have HS := seq hz; clear hz
  subst k0
  go_enter Try.func54, Try.ntmps54
  go_wp2_with (with_reducible refine gwpList_agg BinOp.eql 33 _ _ _ rfl rfl _ _ rfl rfl ggt_set _ (HS.out _) ?_)
  go_ret; exact ⟨rfl, one_new _ _⟩
theorem rm_20 (k0 : l = 0) (hr : ¬ rule < 0) (hR : ¬ (R : Int) ≤ rule) (hz : z4 x0 x1 x2 x3 = true) : PmIs 54 2 l rule x0 x1 x2 x3 R true := by
  intro ka kc w _
  have HS := seq hz; clear hz
  subst k0
  go_enter Try.func54, Try.ntmps54
  go_wp2_with (with_reducible refine gwpList_agg BinOp.eql 33 _ _ _ rfl rfl _ _ rfl rfl ggt_set _ (HS.out _) ?_)
  go_ret; exact ⟨rfl, one_new _ _⟩
end
set_option maxHeartbeats 1000000 in
theorem rm_any (op : Int) (ka : Option Addr) (l kc : Nat) (rule x0 x1 x2 x3 : Int) (R : Nat) (w : World) (hl : l ≤ 9223372036854775807) :
    Calls Try.prog 54 #[.agg #[.int .i64 op, .slice ka l kc, .int .i64 rule, .int .u64 x0, .int .u64 x1, .int .u64 x2, .int .u64 x3], .int .i64 (R : Int)] w fun e w' => e = .returned (.bool (made5 op l rule R (x0 == 0 && (x1 == 0 && (x2 == 0 && x3 == 0))))) ∧ Below w.heap.size w w' := by
  refine (?_ : PmIs 54 op l rule x0 x1 x2 x3 R (made5 op l rule R (z4 x0 x1 x2 x3))) ka kc w hl
  clear hl w kc ka
  have hrr : (rule != 0) = false ∧ rule = 0 ∨ (rule != 0) = true ∧ rule ≠ 0 := by
    by_cases h : rule = 0
    · exact .inl ⟨by rw [h]; rfl, h⟩
    · exact .inr ⟨ibne_yes h, h⟩
  have hk : l = 0 ∨ l = 1 ∨ 2 ≤ l := by omega
  by_cases h0 : op < 0
  · rw [made5_low h0]; exact rm_low h0
  by_cases h9 : 9 < op
  · rw [made5_high h9]; exact rm_high h9 h0
  by_cases h2 : op = 2
  · subst h2
    rcases hk with hk | hk | hk
    · by_cases hr : rule < 0
      · rw [made5_call (by omega)]; exact rm_2a hk hr
      · by_cases hR : (R : Int) ≤ rule
        · rw [made5_call (by omega)]; exact rm_2b hk hr hR
        · cases hz : z4 x0 x1 x2 x3 with
          | false => rw [made5_set (by omega)]; exact rm_2s hk hr hR hz
          | true => rw [made5_yes (by omega) (by omega) (by omega) (by omega) (Or.inr rfl)]; exact rm_20 hk hr hR hz
    · rw [made5_none (by omega) (by omega)]; exact rm_f1 (by omega) hk
    · rw [made5_none (by omega) (by omega)]; exact rm_f2 (by omega) hk
  rcases (by omega : (op = 0 ∨ op = 1) ∨ (op = 3 ∨ op = 4) ∨ 5 ≤ op) with ho | ho | ho
  · rcases hk with hk | hk | hk
    · rcases hrr with ⟨hr, hr0⟩ | ⟨hr, hr0⟩
      case inr => rw [made5_rule h2 hr0]; exact rm_r0 (by omega) hk hr
      by_cases h1 : op = 1
      · subst h1; rw [made5_yes (by omega) (by omega) (by omega) (by omega) (Or.inl rfl)]; exact rm_10 hk hr
      obtain rfl : op = 0 := by omega
      cases hz : z4 x0 x1 x2 x3 with
      | false => rw [made5_set (by omega)]; exact rm_s0 hk hr hz
      | true => rw [made5_yes (by omega) (by omega) (by omega) (by omega) (Or.inr rfl)]; exact rm_t0 hk hr hz
    · rw [made5_none (by omega) (by omega)]; exact rm_f1 (by omega) hk
    · rw [made5_none (by omega) (by omega)]; exact rm_f2 (by omega) hk
  · rcases hk with hk | hk | hk
    · rw [made5_many (by omega) (by omega)]; exact rm_f0 (by omega) hk
    · rw [made5_many (by omega) (by omega)]; exact rm_f1 (by omega) hk
    · rcases hrr with ⟨hr, hr0⟩ | ⟨hr, hr0⟩
      case inr => rw [made5_rule h2 hr0]; exact rm_r2 (by omega) hk hr
      cases hz : z4 x0 x1 x2 x3 with
      | false => rw [made5_set (by omega)]; exact rm_s2 (by omega) hk hr hz
      | true => rw [made5_yes (by omega) (by omega) (by omega) (by omega) (Or.inr rfl)]; exact rm_t2 (by omega) hk hr hz
  · rcases hk with hk | hk | hk
    · rw [made5_one (by omega) (by omega)]; exact rm_f0 (by omega) hk
    · rcases hrr with ⟨hr, hr0⟩ | ⟨hr, hr0⟩
      case inr => rw [made5_rule h2 hr0]; exact rm_r1 (by omega) hk hr
      cases hz : z4 x0 x1 x2 x3 with
      | false => rw [made5_set (by omega)]; exact rm_s1 (by omega) hk hr hz
      | true => rw [made5_yes (by omega) (by omega) (by omega) (by omega) (Or.inr rfl)]; exact rm_t1 (by omega) hk hr hz
    · rw [made5_one (by omega) (by omega)]; exact rm_f2 (by omega) hk
end Go.Proofs.Ytnfjbjmdempafaa
