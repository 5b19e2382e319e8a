/- The walk of the law BytesetLaws: it returns true for every three sets. -/
import Derived.Test.YtcfjclcbfhajcaaCombines
import Derived.Test.YtcfjclcbfhajcaaAggRule
import Derived.Deep.RegionHeld3
namespace Go.Proofs.Ytcfjclcbfhajcaa
open Go.RowKit Go.Shelf
attribute [local go_sem ↓] exec_eql4 exec_neq4
attribute [local go_sem] eq4_mk orElse_some
theorem SetAt_drew4 {w : World} {B : Nat} {x y z u : Value} (h : w.cell? ⟨B, 0, none⟩ = some x ∧ w.cell? ⟨B, 1, none⟩ = some y ∧ w.cell? ⟨B, 2, none⟩ = some z ∧ w.cell? ⟨B, 3, none⟩ = some u) :
    w.drew.cell? ⟨B, 0, none⟩ = some x ∧ w.drew.cell? ⟨B, 1, none⟩ = some y ∧ w.drew.cell? ⟨B, 2, none⟩ = some z ∧ w.drew.cell? ⟨B, 3, none⟩ = some u := h
set_option maxHeartbeats 4000000 in
set_option maxRecDepth 100000 in
theorem laws_any (f g h : Nat → Bool) (w : World) : Calls Try.prog 7 #[.agg #[.int .u64 (setW f 0), .int .u64 (setW f 1), .int .u64 (setW f 2), .int .u64 (setW f 3)], .agg #[.int .u64 (setW g 0), .int .u64 (setW g 1), .int .u64 (setW g 2), .int .u64 (setW g 3)], .agg #[.int .u64 (setW h 0), .int .u64 (setW h 1), .int .u64 (setW h 2), .int .u64 (setW h 3)]] w
    fun e w' => e = .returned (.bool true) ∧ Below w.heap.size w w' := by
  obtain ⟨FG, hFG⟩ : ∃ F : Nat → Bool, F = fun i => f i || g i := ⟨_, rfl⟩
  obtain ⟨MG, hMG⟩ : ∃ F : Nat → Bool, F = fun i => f i && g i := ⟨_, rfl⟩
  obtain ⟨GH, hGH⟩ : ∃ F : Nat → Bool, F = fun i => g i || h i := ⟨_, rfl⟩
  obtain ⟨FGH, hFGH⟩ : ∃ F : Nat → Bool, F = fun i => f i || GH i := ⟨_, rfl⟩
  obtain ⟨NF, hNF⟩ : ∃ F : Nat → Bool, F = fun i => !f i := ⟨_, rfl⟩
  obtain ⟨NG, hNG⟩ : ∃ F : Nat → Bool, F = fun i => !g i := ⟨_, rfl⟩
  obtain ⟨NFG, hNFG⟩ : ∃ F : Nat → Bool, F = fun i => !FG i := ⟨_, rfl⟩
  have c1 := Lib.hid (union_any f g)
  have c2 := Lib.hid (union_any g f)
  have c3 := Lib.hid (union_any FG h)
  have c4 := Lib.hid (union_any g h)
  have c5 := Lib.hid (union_any f GH)
  have m1 := Lib.hid (meet_any f g)
  have m2 := Lib.hid (meet_any g f)
  have n1 := Lib.hid (not_any f)
  have n2 := Lib.hid (not_any g)
  have n3 := Lib.hid (not_any FG)
  have m3 := Lib.hid (meet_any NF NG)
  have c6 := Lib.hid (union_any f (fun _ => false))
  have m4 := Lib.hid (meet_any f (fun _ => true))
  rw [← hFG] at c1
  rw [show (fun i => g i || f i) = FG from by rw [hFG]; funext i; exact Bool.or_comm _ _] at c2
  rw [show (fun i => FG i || h i) = FGH from by rw [hFGH, hFG, hGH]; funext i; exact Bool.or_assoc _ _ _] at c3
  rw [← hGH] at c4
  rw [← hFGH] at c5
  rw [← hMG] at m1
  rw [show (fun i => g i && f i) = MG from by rw [hMG]; funext i; exact Bool.and_comm _ _] at m2
  rw [← hNF] at n1
  rw [← hNG] at n2
  rw [← hNFG] at n3
  rw [show (fun i => NF i && NG i) = NFG from by rw [hNFG, hNF, hNG, hFG]; funext i; exact (Bool.not_or _ _).symm] at m3
  rw [show (fun i => f i || false) = f from by funext i; exact Bool.or_false _, setW_none 0, setW_none 1, setW_none 2, setW_none 3] at c6
  rw [show (fun i => f i && true) = f from by funext i; exact Bool.and_true _] at m4
  clear hFG hMG hGH hFGH hNF hNG hNFG
  go_enter Try.func7, Try.ntmps7
  go_wp2_with fail
  obtain ⟨W0, hW0⟩ : ∃ W0, ((w.alloc (.cells #[.int .u64 (setW f 0), .int .u64 (setW f 1), .int .u64 (setW f 2), .int .u64 (setW f 3)] 24)).alloc (.cells #[.int .u64 (setW g 0), .int .u64 (setW g 1), .int .u64 (setW g 2), .int .u64 (setW g 3)] 24)).alloc (.cells #[.int .u64 (setW h 0), .int .u64 (setW h 1), .int .u64 (setW h 2), .int .u64 (setW h 3)] 24) = W0 := ⟨_, rfl⟩
  have hB : Below w.heap.size w W0 := by rw [← hW0]; exact (((Below.refl _ w).alloc (Nat.le_refl _) _).alloc (by simp) _).alloc (by simp; omega) _
  have hf : SetAt f w.heap.size W0 := by rw [← hW0]; exact ((SetAt.new rfl rfl rfl rfl rfl).kept ((Below.refl _ _).alloc (Nat.le_refl _) _)).kept ((Below.refl _ _).alloc (Nat.le_refl _) _)
  have hg : SetAt g (w.heap.size + 1) W0 := by rw [← hW0]; exact (SetAt.new (by simp) rfl rfl rfl rfl).kept ((Below.refl _ _).alloc (Nat.le_refl _) _)
  have hh : SetAt h (w.heap.size + 1 + 1) W0 := by rw [← hW0]; exact SetAt.new (by simp) rfl rfl rfl rfl
  rw [hW0]
  clear hW0
  refine (awake_any W0).mono ?_
  rintro e w1 ⟨rfl, hb⟩
  replace hf := hf.kept hb
  replace hg := hg.kept hb
  replace hh := hh.kept hb
  replace hB := hB.trans (hb.mono hB.size)
  clear hb
  have cf := hf.conj
  have cg := hg.conj
  have ch := hh.conj
  go_wp2_with fail
  have hS : (w1.drew.cell? ⟨w.heap.size, 0, none⟩ = some (.int .u64 (setW f 0)) ∧ w1.drew.cell? ⟨w.heap.size, 1, none⟩ = some (.int .u64 (setW f 1)) ∧ w1.drew.cell? ⟨w.heap.size, 2, none⟩ = some (.int .u64 (setW f 2)) ∧ w1.drew.cell? ⟨w.heap.size, 3, none⟩ = some (.int .u64 (setW f 3))) ∧ (w1.drew.cell? ⟨w.heap.size + 1, 0, none⟩ = some (.int .u64 (setW g 0)) ∧ w1.drew.cell? ⟨w.heap.size + 1, 1, none⟩ = some (.int .u64 (setW g 1)) ∧ w1.drew.cell? ⟨w.heap.size + 1, 2, none⟩ = some (.int .u64 (setW g 2)) ∧ w1.drew.cell? ⟨w.heap.size + 1, 3, none⟩ = some (.int .u64 (setW g 3))) ∧ (w1.drew.cell? ⟨w.heap.size + 1 + 1, 0, none⟩ = some (.int .u64 (setW h 0)) ∧ w1.drew.cell? ⟨w.heap.size + 1 + 1, 1, none⟩ = some (.int .u64 (setW h 1)) ∧ w1.drew.cell? ⟨w.heap.size + 1 + 1, 2, none⟩ = some (.int .u64 (setW h 2)) ∧ w1.drew.cell? ⟨w.heap.size + 1 + 1, 3, none⟩ = some (.int .u64 (setW h 3))) ∧ Below w.heap.size w w1.drew := ⟨hf.drew.conj, hg.drew.conj, hh.drew.conj, hB.drew⟩
  clear cf cg ch hf hg hh hB
  go_region_held3 (fun W => (W.cell? ⟨w.heap.size, 0, none⟩ = some (.int .u64 (setW f 0)) ∧ W.cell? ⟨w.heap.size, 1, none⟩ = some (.int .u64 (setW f 1)) ∧ W.cell? ⟨w.heap.size, 2, none⟩ = some (.int .u64 (setW f 2)) ∧ W.cell? ⟨w.heap.size, 3, none⟩ = some (.int .u64 (setW f 3))) ∧ (W.cell? ⟨w.heap.size + 1, 0, none⟩ = some (.int .u64 (setW g 0)) ∧ W.cell? ⟨w.heap.size + 1, 1, none⟩ = some (.int .u64 (setW g 1)) ∧ W.cell? ⟨w.heap.size + 1, 2, none⟩ = some (.int .u64 (setW g 2)) ∧ W.cell? ⟨w.heap.size + 1, 3, none⟩ = some (.int .u64 (setW g 3))) ∧ (W.cell? ⟨w.heap.size + 1 + 1, 0, none⟩ = some (.int .u64 (setW h 0)) ∧ W.cell? ⟨w.heap.size + 1 + 1, 1, none⟩ = some (.int .u64 (setW h 1)) ∧ W.cell? ⟨w.heap.size + 1 + 1, 2, none⟩ = some (.int .u64 (setW h 2)) ∧ W.cell? ⟨w.heap.size + 1 + 1, 3, none⟩ = some (.int .u64 (setW h 3))) ∧ Below w.heap.size w W) (first | exact hS)
    (first
     | (go_at_call 21; with_reducible refine (c1.out _).mono ?_; rintro e w3 ⟨rfl, hb⟩; replace hS := And.intro (four_kept hb hS.1) (And.intro (four_kept hb hS.2.1) (And.intro (four_kept hb hS.2.2.1) (hS.2.2.2.trans (hb.mono hS.2.2.2.size)))); clear hb)
     | (go_at_call 21; with_reducible refine (c2.out _).mono ?_; rintro e w3 ⟨rfl, hb⟩; replace hS := And.intro (four_kept hb hS.1) (And.intro (four_kept hb hS.2.1) (And.intro (four_kept hb hS.2.2.1) (hS.2.2.2.trans (hb.mono hS.2.2.2.size)))); clear hb)
     | (go_at_call 21; with_reducible refine (c3.out _).mono ?_; rintro e w3 ⟨rfl, hb⟩; replace hS := And.intro (four_kept hb hS.1) (And.intro (four_kept hb hS.2.1) (And.intro (four_kept hb hS.2.2.1) (hS.2.2.2.trans (hb.mono hS.2.2.2.size)))); clear hb)
     | (go_at_call 21; with_reducible refine (c4.out _).mono ?_; rintro e w3 ⟨rfl, hb⟩; replace hS := And.intro (four_kept hb hS.1) (And.intro (four_kept hb hS.2.1) (And.intro (four_kept hb hS.2.2.1) (hS.2.2.2.trans (hb.mono hS.2.2.2.size)))); clear hb)
     | (go_at_call 21; with_reducible refine (c5.out _).mono ?_; rintro e w3 ⟨rfl, hb⟩; replace hS := And.intro (four_kept hb hS.1) (And.intro (four_kept hb hS.2.1) (And.intro (four_kept hb hS.2.2.1) (hS.2.2.2.trans (hb.mono hS.2.2.2.size)))); clear hb)
     | (go_at_call 22; with_reducible refine (m1.out _).mono ?_; rintro e w3 ⟨rfl, hb⟩; replace hS := And.intro (four_kept hb hS.1) (And.intro (four_kept hb hS.2.1) (And.intro (four_kept hb hS.2.2.1) (hS.2.2.2.trans (hb.mono hS.2.2.2.size)))); clear hb)
     | (go_at_call 22; with_reducible refine (m2.out _).mono ?_; rintro e w3 ⟨rfl, hb⟩; replace hS := And.intro (four_kept hb hS.1) (And.intro (four_kept hb hS.2.1) (And.intro (four_kept hb hS.2.2.1) (hS.2.2.2.trans (hb.mono hS.2.2.2.size)))); clear hb))
  clear c2 c3 c4 c5 m1 m2
  have hS2 := And.intro (SetAt_drew4 hS.1) (And.intro (SetAt_drew4 hS.2.1) (And.intro (SetAt_drew4 hS.2.2.1) hS.2.2.2.drew))
  go_wp2_with fail
  clear hS
  go_region_held3 (fun W => (W.cell? ⟨w.heap.size, 0, none⟩ = some (.int .u64 (setW f 0)) ∧ W.cell? ⟨w.heap.size, 1, none⟩ = some (.int .u64 (setW f 1)) ∧ W.cell? ⟨w.heap.size, 2, none⟩ = some (.int .u64 (setW f 2)) ∧ W.cell? ⟨w.heap.size, 3, none⟩ = some (.int .u64 (setW f 3))) ∧ (W.cell? ⟨w.heap.size + 1, 0, none⟩ = some (.int .u64 (setW g 0)) ∧ W.cell? ⟨w.heap.size + 1, 1, none⟩ = some (.int .u64 (setW g 1)) ∧ W.cell? ⟨w.heap.size + 1, 2, none⟩ = some (.int .u64 (setW g 2)) ∧ W.cell? ⟨w.heap.size + 1, 3, none⟩ = some (.int .u64 (setW g 3))) ∧ (W.cell? ⟨w.heap.size + 1 + 1, 0, none⟩ = some (.int .u64 (setW h 0)) ∧ W.cell? ⟨w.heap.size + 1 + 1, 1, none⟩ = some (.int .u64 (setW h 1)) ∧ W.cell? ⟨w.heap.size + 1 + 1, 2, none⟩ = some (.int .u64 (setW h 2)) ∧ W.cell? ⟨w.heap.size + 1 + 1, 3, none⟩ = some (.int .u64 (setW h 3))) ∧ Below w.heap.size w W) (first | exact hS2)
    (first
     | (go_at_call 21; with_reducible refine (c1.out _).mono ?_; rintro e w3 ⟨rfl, hb⟩; replace hS2 := And.intro (four_kept hb hS2.1) (And.intro (four_kept hb hS2.2.1) (And.intro (four_kept hb hS2.2.2.1) (hS2.2.2.2.trans (hb.mono hS2.2.2.2.size)))); clear hb)
     | (go_at_call 23; with_reducible refine (n1.out _).mono ?_; rintro e w3 ⟨rfl, hb⟩; replace hS2 := And.intro (four_kept hb hS2.1) (And.intro (four_kept hb hS2.2.1) (And.intro (four_kept hb hS2.2.2.1) (hS2.2.2.2.trans (hb.mono hS2.2.2.2.size)))); clear hb)
     | (go_at_call 23; with_reducible refine (n2.out _).mono ?_; rintro e w3 ⟨rfl, hb⟩; replace hS2 := And.intro (four_kept hb hS2.1) (And.intro (four_kept hb hS2.2.1) (And.intro (four_kept hb hS2.2.2.1) (hS2.2.2.2.trans (hb.mono hS2.2.2.2.size)))); clear hb)
     | (go_at_call 23; with_reducible refine (n3.out _).mono ?_; rintro e w3 ⟨rfl, hb⟩; replace hS2 := And.intro (four_kept hb hS2.1) (And.intro (four_kept hb hS2.2.1) (And.intro (four_kept hb hS2.2.2.1) (hS2.2.2.2.trans (hb.mono hS2.2.2.2.size)))); clear hb)
     | (go_at_call 22; with_reducible refine (m3.out _).mono ?_; rintro e w3 ⟨rfl, hb⟩; replace hS2 := And.intro (four_kept hb hS2.1) (And.intro (four_kept hb hS2.2.1) (And.intro (four_kept hb hS2.2.2.1) (hS2.2.2.2.trans (hb.mono hS2.2.2.2.size)))); clear hb)
     | (go_at_call 21; with_reducible refine (c6.out _).mono ?_; rintro e w3 ⟨rfl, hb⟩; replace hS2 := And.intro (four_kept hb hS2.1) (And.intro (four_kept hb hS2.2.1) (And.intro (four_kept hb hS2.2.2.1) (hS2.2.2.2.trans (hb.mono hS2.2.2.2.size)))); clear hb)
     | (go_at_call 20; with_reducible refine (full_any _).mono ?_; rintro e w3 ⟨rfl, hb⟩; replace hS2 := And.intro (four_kept hb hS2.1) (And.intro (four_kept hb hS2.2.1) (And.intro (four_kept hb hS2.2.2.1) (hS2.2.2.2.trans (hb.mono hS2.2.2.2.size)))); clear hb)
     | (go_at_call 22; with_reducible refine (m4.out _).mono ?_; rintro e w3 ⟨rfl, hb⟩; replace hS2 := And.intro (four_kept hb hS2.1) (And.intro (four_kept hb hS2.2.1) (And.intro (four_kept hb hS2.2.2.1) (hS2.2.2.2.trans (hb.mono hS2.2.2.2.size)))); clear hb))
  have hfin := hS2.2.2.2
  clear hS2 c1 n1 n2 n3 m3 c6 m4
  go_wp2
  go_ret
  exact ⟨rfl, hfin⟩
end Go.Proofs.Ytcfjclcbfhajcaa
