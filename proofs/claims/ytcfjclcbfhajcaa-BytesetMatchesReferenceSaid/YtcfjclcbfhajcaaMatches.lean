/- The walk of the law BytesetMatchesReference: it returns true for every set and every byte. -/
import Derived.Test.YtcfjclcbfhajcaaCombines
import Derived.Test.YtcfjclcbfhajcaaAggRule
import Derived.Test.YtcfjclcbfhajcaaRegion
import Derived.Test.YtcfjclcbfhajcaaMakes
import Derived.Test.YtcfjclcbfhajcaaPairs
import Derived.BigQuiet
import Derived.Deep.QuietTactic
namespace Go.Proofs.Ytcfjclcbfhajcaa
open Go.RowKit Go.Shelf
attribute [local go_sem ↓] exec_eql2 exec_neq2
attribute [local go_sem] eq2_mk orElse_some
theorem drew4 {w : World} {B : Nat} {x y z u : Value} (h : w.cell? ⟨B, 0, none⟩ = some x ∧ w.cell? ⟨B, 1, none⟩ = some y ∧ w.cell? ⟨B, 2, none⟩ = some z ∧ w.cell? ⟨B, 3, none⟩ = some u) :
    w.drew.cell? ⟨B, 0, none⟩ = some x ∧ w.drew.cell? ⟨B, 1, none⟩ = some y ∧ w.drew.cell? ⟨B, 2, none⟩ = some z ∧ w.drew.cell? ⟨B, 3, none⟩ = some u := h
/-- what a slice of bytes is, where its string is known and its length -/
theorem bytes_str (f : Nat → Bool) (w : World) : Calls Try.prog 11 #[.agg #[.int .u64 (setW f 0), .int .u64 (setW f 1), .int .u64 (setW f 2), .int .u64 (setW f 3)]] w fun e w' =>
    ∃ a cap, e = .returned (.slice a (memb f 256).length cap) ∧ (convert 27 9 (.slice a (memb f 256).length cap)).run Try.prog w' = .ok (.string (strOf (memb f 256))) w' ∧ Below w.heap.size w w' := by
  refine (bytes_any f w).mono ?_
  rintro e w' ⟨v, rfl, hr, hb⟩
  have h := RowAt.of_owns hr (by rw [List.length_map])
  have hc := conv_row h (memb_lt f 256 (Nat.le_refl _))
  obtain ⟨a, cap, rfl, -⟩ := h
  rw [List.length_map] at hc ⊢
  exact ⟨a, cap, rfl, hc, hb⟩
theorem rbytes_str (f : Nat → Bool) (w : World) : Calls Try.prog 12 #[.agg #[.int .u64 (setW f 0), .int .u64 (setW f 1), .int .u64 (setW f 2), .int .u64 (setW f 3)]] w fun e w' =>
    ∃ a cap, e = .returned (.slice a (memb f 256).length cap) ∧ (convert 27 9 (.slice a (memb f 256).length cap)).run Try.prog w' = .ok (.string (strOf (memb f 256))) w' ∧ Below w.heap.size w w' := by
  refine (rbytes_any f w).mono ?_
  rintro e w' ⟨v, rfl, hr, hb⟩
  have h := RowAt.of_owns hr (by unfold u8s; rw [List.length_map])
  have hc := conv_row h (memb_lt f 256 (Nat.le_refl _))
  obtain ⟨a, cap, rfl, -⟩ := h
  have e : (u8s (memb f 256)).length = (memb f 256).length := by unfold u8s; rw [List.length_map]
  rw [e] at hc ⊢
  exact ⟨a, cap, rfl, hc, hb⟩
theorem below_drewN (w : World) (n : Nat) : Below w.heap.size w (w.drewN n) := ⟨rfl, rfl, rfl, Nat.le_refl _, fun _ _ => rfl⟩
theorem cnt_memb (f : Nat → Bool) (k : Nat) : cnt f k = (memb f k).length := by
  induction k with
  | zero => rfl
  | succ k ih => rw [memb_succ, List.length_append, ← ih]; show cnt f k + (f k).toNat = _; cases f k <;> simp
def aggF (f : Nat → Bool) : Value := .agg #[.int .u64 (setW f 0), .int .u64 (setW f 1), .int .u64 (setW f 2), .int .u64 (setW f 3)]
/-- what each operation of the law's first test gives; 13, 16, 24: the slices of bytes -/
def MV (f : Nat → Bool) (c : Nat) (b : Bool) : Nat → Option Value
  | 0 => some (.bool true)
  | 3 | 6 | 12 | 15 | 21 | 23 => some (aggF f)
  | 4 | 7 => some (.int .u8 (c : Int))
  | 5 | 8 => some (.bool b)
  | 13 | 16 | 24 => none
  | 14 | 17 => some (.string (strOf (memb f 256)))
  | 22 | 25 => some (.int .i64 (((memb f 256).length : Nat) : Int))
  | _ => some (.bool false)
def MT (f : Nat → Bool) (c : Nat) (b : Bool) (k : Nat) (v : Value) (w : World) : Prop :=
  (∀ u, MV f c b k = some u → v = u) ∧ (MV f c b k = none → ∃ a cap, v = .slice a (memb f 256).length cap ∧ RowAt w v (u8s (memb f 256)))
theorem MT_mono (f : Nat → Bool) (c : Nat) (b : Bool) (k : Nat) (v : Value) (w w' : World) (hb : Below w.heap.size w w') (h : MT f c b k v w) : MT f c b k v w' :=
  ⟨h.1, fun e => by obtain ⟨a, cap, e', hr⟩ := h.2 e; exact ⟨a, cap, e', hr.below hb⟩⟩
theorem MT_val {f : Nat → Bool} {c : Nat} {b : Bool} {k : Nat} {u : Value} {w : World} (h : MV f c b k = some u) : MT f c b k u w :=
  ⟨(fun _ e => by rw [h] at e; injection e), (fun e => by rw [h] at e; cases e)⟩
theorem MT_row {f : Nat → Bool} {c : Nat} {b : Bool} {k : Nat} {a : Option Addr} {cap : Nat} {w : World} (h : MV f c b k = none) (hr : RowAt w (.slice a (memb f 256).length cap) (u8s (memb f 256))) : MT f c b k (.slice a (memb f 256).length cap) w :=
  ⟨(fun _ e => by rw [h] at e; cases e), fun _ => ⟨a, cap, rfl, hr⟩⟩
theorem bytes_row (f : Nat → Bool) (w : World) : Calls Try.prog 11 #[aggF f] w fun e w' => ∃ a cap, e = .returned (.slice a (memb f 256).length cap) ∧ RowAt w' (.slice a (memb f 256).length cap) (u8s (memb f 256)) ∧ Below w.heap.size w w' := by
  refine (bytes_any f w).mono ?_
  rintro e w' ⟨v, rfl, hr, hb⟩
  have h := RowAt.of_owns hr (by rw [List.length_map])
  have h' := h
  obtain ⟨a, cap, rfl, -⟩ := h'
  rw [List.length_map] at h ⊢
  exact ⟨a, cap, rfl, h, hb⟩
theorem rbytes_row (f : Nat → Bool) (w : World) : Calls Try.prog 12 #[aggF f] w fun e w' => ∃ a cap, e = .returned (.slice a (memb f 256).length cap) ∧ RowAt w' (.slice a (memb f 256).length cap) (u8s (memb f 256)) ∧ Below w.heap.size w w' := by
  refine (rbytes_any f w).mono ?_
  rintro e w' ⟨v, rfl, hr, hb⟩
  have h := RowAt.of_owns hr (by unfold u8s; rw [List.length_map])
  have h' := h
  obtain ⟨a, cap, rfl, -⟩ := h'
  have e : (u8s (memb f 256)).length = (memb f 256).length := by unfold u8s; rw [List.length_map]
  rw [e] at h ⊢
  exact ⟨a, cap, rfl, h, hb⟩
set_option maxHeartbeats 4000000 in
set_option maxRecDepth 100000 in
theorem matches_any (f : Nat → Bool) (c : Nat) (hc : c < 256) (w0 : World) : Calls Try.prog 3 #[.agg #[.int .u64 (setW f 0), .int .u64 (setW f 1), .int .u64 (setW f 2), .int .u64 (setW f 3)], .int .u8 (c : Int)] w0
    fun e w' => e = .returned (.bool true) ∧ Below w0.heap.size w0 w' := by
  obtain ⟨b, hfb⟩ : ∃ b, f c = b := ⟨_, rfl⟩
  have k1 := Lib.hid (fun w => has_is f (c : Int) b w (by omega) (by omega) (by rw [Int.toNat_natCast]; exact hfb))
  have k2 := Lib.hid (rhas_is f c b hfb hc)
  have hcm := cnt_memb f 256
  have k3 := Lib.hid (count_is f _ (((memb f 256).length : Nat) : Int) hcm rfl)
  have hml := memb_len f 256
  clear hcm hfb
  go_enter Try.func3, Try.ntmps3
  go_wp2_with fail
  obtain ⟨W0, hW0⟩ : ∃ W0, w0.alloc (.cells #[.int .u64 (setW f 0), .int .u64 (setW f 1), .int .u64 (setW f 2), .int .u64 (setW f 3)] 24) = W0 := ⟨_, rfl⟩
  have hB : Below w0.heap.size w0 W0 := by rw [← hW0]; exact (Below.refl _ w0).alloc (Nat.le_refl _) _
  have hf : SetAt f w0.heap.size W0 := by rw [← hW0]; exact SetAt.new rfl rfl rfl rfl rfl
  rw [hW0]
  clear hW0
  refine wp_region_inv (by kernel_rfl) [1, 2] (MT f c b) (fun W => SetAt f w0.heap.size W ∧ Below w0.heap.size w0 W) (by kernel_rfl) (by kernel_rfl) (by kernel_rfl) (by kernel_rfl) (MT_mono f c b) ⟨hf.drew, hB.drew⟩ ?steps ?done
  case steps =>
    refine ⟨?_, ?_, ?_, ?_, ?_, ?_, ?_, ?_, ?_, ?_, ?_, ?_, ?_, ?_, ?_, ?_, ?_, ?_, ?_, ?_, ?_, ?_, ?_, ?_, ?_, ?_, ?_, ?_, trivial⟩
    · intro a w hS hk hd
      refine pay_plain rfl ?_
      have hF : a.eval (.func 8) = .func (.func 8) #[] #[] := rfl
      refine step_call 8 #[] (by generalize a.eval = ρ at *; simp [go_sem, hF]) ((awake_any w).mono ?_)
      rintro e w' ⟨rfl, hb⟩
      exact ⟨_, rfl, MT_val rfl, hb, hS.1.kept hb, hS.2.trans (hb.mono hS.2.size)⟩
    · intro a w hS hk hd
      have h8 : a.eval (.tmp 8) = .bool true := (hd 0 8 (by kernel_rfl)).1 _ rfl
      refine pay_plain rfl ?_
      exact step_value (.bool false) (by generalize a.eval = ρ at *; simp [go_sem, h8]) (MT_val rfl) hS
    · intro a w hS hk hd
      have h9 : a.eval (.tmp 9) = .bool false := (hd 1 9 (by kernel_rfl)).1 _ rfl
      refine pay_plain rfl ?_
      exact step_value (.bool false) (by generalize a.eval = ρ at *; simp [go_sem, h9]) (MT_val rfl) hS
    · intro a w hS hk hd
      have h10 : a.eval (.tmp 10) = .bool false := (hd 2 10 (by kernel_rfl)).1 _ rfl
      refine pay_guard rfl rfl h10 ?_
      have p2 : a.eval (.tmp 2) = .pointer (some ⟨w0.heap.size, 0, none⟩) := hk 2 (by simp)
      obtain ⟨q0, q1, q2, q3⟩ := hS.1.conj
      exact step_value (aggF f) (by generalize a.eval = ρ at *; unfold aggF; simp [go_sem, p2, q0, q1, q2, q3]) (MT_val rfl) hS
    · intro a w hS hk hd
      have p1 : a.eval (.tmp 1) = .int .u8 (c : Int) := hk 1 (by simp)
      have h10 : a.eval (.tmp 10) = .bool false := (hd 2 10 (by kernel_rfl)).1 _ rfl
      refine pay_guard rfl rfl h10 ?_
      exact step_value (.int .u8 (c : Int)) (by generalize a.eval = ρ at *; simp [go_sem, p1]) (MT_val rfl) hS
    · intro a w hS hk hd
      have h11 : a.eval (.tmp 11) = aggF f := (hd 3 11 (by kernel_rfl)).1 _ rfl
      have h12 : a.eval (.tmp 12) = .int .u8 (c : Int) := (hd 4 12 (by kernel_rfl)).1 _ rfl
      have h10 : a.eval (.tmp 10) = .bool false := (hd 2 10 (by kernel_rfl)).1 _ rfl
      refine pay_guard rfl rfl h10 ?_
      have hF : a.eval (.func 9) = .func (.func 9) #[] #[] := rfl
      refine step_call 9 #[aggF f, .int .u8 (c : Int)] (by generalize a.eval = ρ at *; simp [go_sem, hF, h11, h12]) ((k1.out w).mono ?_)
      rintro e w' ⟨rfl, hb⟩
      exact ⟨_, rfl, MT_val rfl, hb, hS.1.kept hb, hS.2.trans (hb.mono hS.2.size)⟩
    · intro a w hS hk hd
      have h10 : a.eval (.tmp 10) = .bool false := (hd 2 10 (by kernel_rfl)).1 _ rfl
      refine pay_guard rfl rfl h10 ?_
      have p2 : a.eval (.tmp 2) = .pointer (some ⟨w0.heap.size, 0, none⟩) := hk 2 (by simp)
      obtain ⟨q0, q1, q2, q3⟩ := hS.1.conj
      exact step_value (aggF f) (by generalize a.eval = ρ at *; unfold aggF; simp [go_sem, p2, q0, q1, q2, q3]) (MT_val rfl) hS
    · intro a w hS hk hd
      have p1 : a.eval (.tmp 1) = .int .u8 (c : Int) := hk 1 (by simp)
      have h10 : a.eval (.tmp 10) = .bool false := (hd 2 10 (by kernel_rfl)).1 _ rfl
      refine pay_guard rfl rfl h10 ?_
      exact step_value (.int .u8 (c : Int)) (by generalize a.eval = ρ at *; simp [go_sem, p1]) (MT_val rfl) hS
    · intro a w hS hk hd
      have h14 : a.eval (.tmp 14) = aggF f := (hd 6 14 (by kernel_rfl)).1 _ rfl
      have h15 : a.eval (.tmp 15) = .int .u8 (c : Int) := (hd 7 15 (by kernel_rfl)).1 _ rfl
      have h10 : a.eval (.tmp 10) = .bool false := (hd 2 10 (by kernel_rfl)).1 _ rfl
      refine pay_guard rfl rfl h10 ?_
      have hF : a.eval (.func 10) = .func (.func 10) #[] #[] := rfl
      refine step_call 10 #[aggF f, .int .u8 (c : Int)] (by generalize a.eval = ρ at *; simp [go_sem, hF, h14, h15]) ((k2.out w).mono ?_)
      rintro e w' ⟨rfl, hb⟩
      exact ⟨_, rfl, MT_val rfl, hb, hS.1.kept hb, hS.2.trans (hb.mono hS.2.size)⟩
    · intro a w hS hk hd
      have h13 : a.eval (.tmp 13) = .bool b := (hd 5 13 (by kernel_rfl)).1 _ rfl
      have h16 : a.eval (.tmp 16) = .bool b := (hd 8 16 (by kernel_rfl)).1 _ rfl
      have h10 : a.eval (.tmp 10) = .bool false := (hd 2 10 (by kernel_rfl)).1 _ rfl
      refine pay_guard rfl rfl h10 ?_
      exact step_value (.bool false) (by generalize a.eval = ρ at *; simp [go_sem, h13, h16]) (MT_val rfl) hS
    · intro a w hS hk hd
      have h10 : a.eval (.tmp 10) = .bool false := (hd 2 10 (by kernel_rfl)).1 _ rfl
      have h17 : a.eval (.tmp 17) = .bool false := (hd 9 17 (by kernel_rfl)).1 _ rfl
      refine pay_plain rfl ?_
      exact step_value (.bool false) (by generalize a.eval = ρ at *; simp [go_sem, h10, h17]) (MT_val rfl) hS
    · intro a w hS hk hd
      have h18 : a.eval (.tmp 18) = .bool false := (hd 10 18 (by kernel_rfl)).1 _ rfl
      refine pay_plain rfl ?_
      exact step_value (.bool false) (by generalize a.eval = ρ at *; simp [go_sem, h18]) (MT_val rfl) hS
    · intro a w hS hk hd
      have h19 : a.eval (.tmp 19) = .bool false := (hd 11 19 (by kernel_rfl)).1 _ rfl
      refine pay_guard rfl rfl h19 ?_
      have p2 : a.eval (.tmp 2) = .pointer (some ⟨w0.heap.size, 0, none⟩) := hk 2 (by simp)
      obtain ⟨q0, q1, q2, q3⟩ := hS.1.conj
      exact step_value (aggF f) (by generalize a.eval = ρ at *; unfold aggF; simp [go_sem, p2, q0, q1, q2, q3]) (MT_val rfl) hS
    · intro a w hS hk hd
      have h20 : a.eval (.tmp 20) = aggF f := (hd 12 20 (by kernel_rfl)).1 _ rfl
      have h19 : a.eval (.tmp 19) = .bool false := (hd 11 19 (by kernel_rfl)).1 _ rfl
      refine pay_guard rfl rfl h19 ?_
      have hF : a.eval (.func 11) = .func (.func 11) #[] #[] := rfl
      refine step_call 11 #[aggF f] (by generalize a.eval = ρ at *; simp [go_sem, hF, h20]) ((bytes_row f w).mono ?_)
      rintro e w' ⟨a', cap, rfl, hr, hb⟩
      exact ⟨_, rfl, MT_row rfl hr, hb, hS.1.kept hb, hS.2.trans (hb.mono hS.2.size)⟩
    · intro a w hS hk hd
      obtain ⟨a', cap, e, hr⟩ := (hd 13 21 (by kernel_rfl)).2 rfl
      have hcv := conv_row hr (memb_lt f 256 (Nat.le_refl _))
      have h19 : a.eval (.tmp 19) = .bool false := (hd 11 19 (by kernel_rfl)).1 _ rfl
      refine pay_guard rfl rfl h19 ?_
      exact step_value (.string (strOf (memb f 256))) (by generalize a.eval = ρ at *; simp [go_sem, hcv]) (MT_val rfl) hS
    · intro a w hS hk hd
      have h19 : a.eval (.tmp 19) = .bool false := (hd 11 19 (by kernel_rfl)).1 _ rfl
      refine pay_guard rfl rfl h19 ?_
      have p2 : a.eval (.tmp 2) = .pointer (some ⟨w0.heap.size, 0, none⟩) := hk 2 (by simp)
      obtain ⟨q0, q1, q2, q3⟩ := hS.1.conj
      exact step_value (aggF f) (by generalize a.eval = ρ at *; unfold aggF; simp [go_sem, p2, q0, q1, q2, q3]) (MT_val rfl) hS
    · intro a w hS hk hd
      have h23 : a.eval (.tmp 23) = aggF f := (hd 15 23 (by kernel_rfl)).1 _ rfl
      have h19 : a.eval (.tmp 19) = .bool false := (hd 11 19 (by kernel_rfl)).1 _ rfl
      refine pay_guard rfl rfl h19 ?_
      have hF : a.eval (.func 12) = .func (.func 12) #[] #[] := rfl
      refine step_call 12 #[aggF f] (by generalize a.eval = ρ at *; simp [go_sem, hF, h23]) ((rbytes_row f w).mono ?_)
      rintro e w' ⟨a', cap, rfl, hr, hb⟩
      exact ⟨_, rfl, MT_row rfl hr, hb, hS.1.kept hb, hS.2.trans (hb.mono hS.2.size)⟩
    · intro a w hS hk hd
      obtain ⟨a', cap, e, hr⟩ := (hd 16 24 (by kernel_rfl)).2 rfl
      have hcv := conv_row hr (memb_lt f 256 (Nat.le_refl _))
      have h19 : a.eval (.tmp 19) = .bool false := (hd 11 19 (by kernel_rfl)).1 _ rfl
      refine pay_guard rfl rfl h19 ?_
      exact step_value (.string (strOf (memb f 256))) (by generalize a.eval = ρ at *; simp [go_sem, hcv]) (MT_val rfl) hS
    · intro a w hS hk hd
      have h22 : a.eval (.tmp 22) = .string (strOf (memb f 256)) := (hd 14 22 (by kernel_rfl)).1 _ rfl
      have h25 : a.eval (.tmp 25) = .string (strOf (memb f 256)) := (hd 17 25 (by kernel_rfl)).1 _ rfl
      have h19 : a.eval (.tmp 19) = .bool false := (hd 11 19 (by kernel_rfl)).1 _ rfl
      refine pay_guard rfl rfl h19 ?_
      exact step_value (.bool false) (by generalize a.eval = ρ at *; simp [go_sem, h22, h25]) (MT_val rfl) hS
    · intro a w hS hk hd
      have h19 : a.eval (.tmp 19) = .bool false := (hd 11 19 (by kernel_rfl)).1 _ rfl
      have h26 : a.eval (.tmp 26) = .bool false := (hd 18 26 (by kernel_rfl)).1 _ rfl
      refine pay_plain rfl ?_
      exact step_value (.bool false) (by generalize a.eval = ρ at *; simp [go_sem, h19, h26]) (MT_val rfl) hS
    · intro a w hS hk hd
      have h27 : a.eval (.tmp 27) = .bool false := (hd 19 27 (by kernel_rfl)).1 _ rfl
      refine pay_plain rfl ?_
      exact step_value (.bool false) (by generalize a.eval = ρ at *; simp [go_sem, h27]) (MT_val rfl) hS
    · intro a w hS hk hd
      have h28 : a.eval (.tmp 28) = .bool false := (hd 20 28 (by kernel_rfl)).1 _ rfl
      refine pay_guard rfl rfl h28 ?_
      have p2 : a.eval (.tmp 2) = .pointer (some ⟨w0.heap.size, 0, none⟩) := hk 2 (by simp)
      obtain ⟨q0, q1, q2, q3⟩ := hS.1.conj
      exact step_value (aggF f) (by generalize a.eval = ρ at *; unfold aggF; simp [go_sem, p2, q0, q1, q2, q3]) (MT_val rfl) hS
    · intro a w hS hk hd
      have h29 : a.eval (.tmp 29) = aggF f := (hd 21 29 (by kernel_rfl)).1 _ rfl
      have h28 : a.eval (.tmp 28) = .bool false := (hd 20 28 (by kernel_rfl)).1 _ rfl
      refine pay_guard rfl rfl h28 ?_
      have hF : a.eval (.func 13) = .func (.func 13) #[] #[] := rfl
      refine step_call 13 #[aggF f] (by generalize a.eval = ρ at *; simp [go_sem, hF, h29]) ((k3.out w).mono ?_)
      rintro e w' ⟨rfl, hb⟩
      exact ⟨_, rfl, MT_val rfl, hb, hS.1.kept hb, hS.2.trans (hb.mono hS.2.size)⟩
    · intro a w hS hk hd
      have h28 : a.eval (.tmp 28) = .bool false := (hd 20 28 (by kernel_rfl)).1 _ rfl
      refine pay_guard rfl rfl h28 ?_
      have p2 : a.eval (.tmp 2) = .pointer (some ⟨w0.heap.size, 0, none⟩) := hk 2 (by simp)
      obtain ⟨q0, q1, q2, q3⟩ := hS.1.conj
      exact step_value (aggF f) (by generalize a.eval = ρ at *; unfold aggF; simp [go_sem, p2, q0, q1, q2, q3]) (MT_val rfl) hS
    · intro a w hS hk hd
      have h31 : a.eval (.tmp 31) = aggF f := (hd 23 31 (by kernel_rfl)).1 _ rfl
      have h28 : a.eval (.tmp 28) = .bool false := (hd 20 28 (by kernel_rfl)).1 _ rfl
      refine pay_guard rfl rfl h28 ?_
      have hF : a.eval (.func 12) = .func (.func 12) #[] #[] := rfl
      refine step_call 12 #[aggF f] (by generalize a.eval = ρ at *; simp [go_sem, hF, h31]) ((rbytes_row f w).mono ?_)
      rintro e w' ⟨a', cap, rfl, hr, hb⟩
      exact ⟨_, rfl, MT_row rfl hr, hb, hS.1.kept hb, hS.2.trans (hb.mono hS.2.size)⟩
    · intro a w hS hk hd
      obtain ⟨a', cap, e, hr⟩ := (hd 24 32 (by kernel_rfl)).2 rfl
      have h28 : a.eval (.tmp 28) = .bool false := (hd 20 28 (by kernel_rfl)).1 _ rfl
      refine pay_guard rfl rfl h28 ?_
      exact step_value (.int .i64 (((memb f 256).length : Nat) : Int)) (by generalize a.eval = ρ at *; simp [go_sem, e]) (MT_val rfl) hS
    · intro a w hS hk hd
      have h30 : a.eval (.tmp 30) = .int .i64 (((memb f 256).length : Nat) : Int) := (hd 22 30 (by kernel_rfl)).1 _ rfl
      have h33 : a.eval (.tmp 33) = .int .i64 (((memb f 256).length : Nat) : Int) := (hd 25 33 (by kernel_rfl)).1 _ rfl
      have h28 : a.eval (.tmp 28) = .bool false := (hd 20 28 (by kernel_rfl)).1 _ rfl
      refine pay_guard rfl rfl h28 ?_
      exact step_value (.bool false) (by generalize a.eval = ρ at *; simp [go_sem, h30, h33]) (MT_val rfl) hS
    · intro a w hS hk hd
      have h28 : a.eval (.tmp 28) = .bool false := (hd 20 28 (by kernel_rfl)).1 _ rfl
      have h34 : a.eval (.tmp 34) = .bool false := (hd 26 34 (by kernel_rfl)).1 _ rfl
      refine pay_plain rfl ?_
      exact step_value (.bool false) (by generalize a.eval = ρ at *; simp [go_sem, h28, h34]) (MT_val rfl) hS
  case done =>
    intro vals w1 hv hS
    have hlast : vals 27 = .bool false := (hv 27 (by simp)).1 _ rfl
    simp only [fill, if_true, Act.put, List.setIfInBounds_toArray, List.set_cons_zero, List.set_cons_succ]
    rw [hlast]
    clear hv hlast k1 k2 k3 hB hf
    obtain ⟨hf, hB⟩ := hS
    have cf := hf.conj
    have hlen : (runsTo f 256).length ≤ 256 := runs_len f 256
    go_wp2_with fail
    refine (runs_row f w1).mono ?_
    rintro e w2 ⟨a1, cap1, rfl, hr1, hb⟩
    replace hf := hf.kept hb
    replace hB := hB.trans (hb.mono hB.size)
    clear hb cf
    have cf := hf.conj
    go_wp2_with fail
    refine (rruns_row f w2).mono ?_
    rintro e w3 ⟨a2, cap2, rfl, hr2, hb⟩
    replace hr1 := hr1.below hb
    replace hB := hB.trans (hb.mono hB.size)
    clear hb cf hf
    generalize runsTo f 256 = rs at *
    go_wp2_with fail
    go_loopw [7] (fun c wr => ∃ k : Nat, k ≤ rs.length ∧ c = .int .i64 k ∧ PairsAt wr (.slice a1 rs.length cap1) rs ∧ PairsAt wr (.slice a2 rs.length cap2) rs ∧ Below w0.heap.size w0 wr) (fun c _ => rs.length - (intOf c).toNat)
    case atStart => exact ⟨0, Nat.zero_le _, rfl, hr1, hr2, hB⟩
    case round =>
      clear hr1 hr2 hB
      obtain ⟨k, hk, rfl, hr1, hr2, hB⟩ := hrel
      by_cases hlt : k < rs.length
      · obtain ⟨x, hx⟩ : ∃ x, rs[k]? = some x := ⟨rs[k], by simp [hlt]⟩
        have hr1' := hr1
        have hr2' := hr2
        obtain ⟨a1', cap1', e1, h1⟩ := hr1
        obtain ⟨a2', cap2', e2, h2⟩ := hr2
        injection e1 with e1 _ e1'
        injection e2 with e2 _ e2'
        subst e1 e1' e2 e2'
        obtain ⟨b1, rfl, hc1⟩ := h1.resolve_left (by rintro rfl; simp at hlt)
        obtain ⟨b2, rfl, hc2⟩ := h2.resolve_left (by rintro rfl; simp at hlt)
        obtain ⟨q1, q2⟩ := hc1 k x hx
        obtain ⟨q3, q4⟩ := hc2 k x hx
        obtain ⟨x1, x2⟩ := x
        dsimp only at q1 q2 q3 q4
        clear hc1 hc2 h1 h2 hx
        go_wp2_with fail
        go_quiet (fail)
        go_wp2_with fail
        exact ⟨⟨k + 1, by omega, by go_num, hr1'.below (below_drewN _ _), hr2'.below (below_drewN _ _), hB.trans ((below_drewN _ _).mono hB.size)⟩, by simp [intOf]; omega⟩
      · clear hr1 hr2
        go_wp2
        go_ret
        exact ⟨rfl, hB⟩
end Go.Proofs.Ytcfjclcbfhajcaa
