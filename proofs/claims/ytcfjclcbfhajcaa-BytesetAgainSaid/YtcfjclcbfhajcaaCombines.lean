/- The walk of the law BytesetCombines: it returns true for every two sets. -/
import Derived.Test.YtcfjclcbfhajcaaAwake
namespace Go.Proofs.Ytcfjclcbfhajcaa
open Go.RowKit Go.Shelf
theorem rhas_is (f : Nat → Bool) (k : Nat) (b : Bool) (hb : f k = b) (hk : k < 256) (w : World) :
    Calls Try.prog 10 #[.agg #[.int .u64 (setW f 0), .int .u64 (setW f 1), .int .u64 (setW f 2), .int .u64 (setW f 3)], .int .u8 (k : Int)] w fun e w' => e = .returned (.bool b) ∧ Below w.heap.size w w' :=
  rhas_nat f k b hb w hk
theorem SetAt.kept {f : Nat → Bool} {B : Nat} {w w' : World} (h : SetAt f B w) (hb : Below w.heap.size w w') : SetAt f B w' := h.below hb h.lt
theorem SetAt.conj {f : Nat → Bool} {B : Nat} {w : World} (h : SetAt f B w) : w.cell? ⟨B, 0, none⟩ = some (.int .u64 (setW f 0)) ∧ w.cell? ⟨B, 1, none⟩ = some (.int .u64 (setW f 1)) ∧ w.cell? ⟨B, 2, none⟩ = some (.int .u64 (setW f 2)) ∧ w.cell? ⟨B, 3, none⟩ = some (.int .u64 (setW f 3)) := h.four.1
/-- the five sets of the law lie in their blocks -/
def CombAt (f g : Nat → Bool) (A B U M N : Nat) (w : World) : Prop := SetAt f A w ∧ SetAt g B w ∧ SetAt (fun i => f i || g i) U w ∧ SetAt (fun i => f i && g i) M w ∧ SetAt (fun i => !f i) N w
theorem CombAt.kept {f g : Nat → Bool} {A B U M N : Nat} {w w' : World} (h : CombAt f g A B U M N w) (hb : Below w.heap.size w w') : CombAt f g A B U M N w' :=
  ⟨h.1.kept hb, h.2.1.kept hb, h.2.2.1.kept hb, h.2.2.2.1.kept hb, h.2.2.2.2.kept hb⟩
set_option maxHeartbeats 2000000 in
set_option maxRecDepth 100000 in
theorem combines_any (f g : Nat → Bool) (w : World) : Calls Try.prog 5 #[.agg #[.int .u64 (setW f 0), .int .u64 (setW f 1), .int .u64 (setW f 2), .int .u64 (setW f 3)], .agg #[.int .u64 (setW g 0), .int .u64 (setW g 1), .int .u64 (setW g 2), .int .u64 (setW g 3)]] w
    fun e w' => e = .returned (.bool true) ∧ Below w.heap.size w w' := by
  go_enter Try.func5, Try.ntmps5
  go_wp2_with fail
  obtain ⟨W0, hW0⟩ : ∃ W0, (w.alloc (.cells #[.int .u64 (setW f 0), .int .u64 (setW f 1), .int .u64 (setW f 2), .int .u64 (setW f 3)] 24)).alloc (.cells #[.int .u64 (setW g 0), .int .u64 (setW g 1), .int .u64 (setW g 2), .int .u64 (setW g 3)] 24) = W0 := ⟨_, rfl⟩
  have hB : Below w.heap.size w W0 := by rw [← hW0]; exact ((Below.refl _ w).alloc (Nat.le_refl _) _).alloc (by simp) _
  have hf : SetAt f w.heap.size W0 := by rw [← hW0]; exact (SetAt.new rfl rfl rfl rfl rfl).kept ((Below.refl _ _).alloc (Nat.le_refl _) _)
  have hg : SetAt g (w.heap.size + 1) W0 := by rw [← hW0]; exact SetAt.new (by simp) rfl rfl rfl rfl
  rw [hW0]
  clear hW0
  refine (awake_any W0).mono ?_
  rintro e w1 ⟨rfl, hb⟩
  replace hf := hf.kept hb
  replace hg := hg.kept hb
  replace hB := hB.trans (hb.mono hB.size)
  clear hb
  have cf := hf.conj
  have cg := hg.conj
  go_wp2_with fail
  clear cf cg
  refine (union_any f g w1).mono ?_
  rintro e w2 ⟨rfl, hb⟩
  replace hf := hf.kept hb
  replace hg := hg.kept hb
  replace hB := hB.trans (hb.mono hB.size)
  clear hb
  have cf := hf.conj
  have cg := hg.conj
  have lf := hf.lt
  have lg := hg.lt
  go_wp2_with fail
  clear cf cg lf lg
  obtain ⟨U, hU⟩ : ∃ U, w2.heap.size = U := ⟨_, rfl⟩
  obtain ⟨W2, hW2⟩ : ∃ W2, w2.alloc (.cells #[.int .u64 (setW (fun i => f i || g i) 0), .int .u64 (setW (fun i => f i || g i) 1), .int .u64 (setW (fun i => f i || g i) 2), .int .u64 (setW (fun i => f i || g i) 3)] 24) = W2 := ⟨_, rfl⟩
  have hu : SetAt (fun i => f i || g i) U W2 := by rw [← hW2]; exact SetAt.new hU.symm rfl rfl rfl rfl
  replace hf : SetAt f w.heap.size W2 := by rw [← hW2]; exact hf.kept ((Below.refl _ _).alloc (Nat.le_refl _) _)
  replace hg : SetAt g (w.heap.size + 1) W2 := by rw [← hW2]; exact hg.kept ((Below.refl _ _).alloc (Nat.le_refl _) _)
  replace hB : Below w.heap.size w W2 := by rw [← hW2]; exact hB.alloc hB.size _
  rw [hW2, hU]
  clear hW2 hU
  refine (meet_any f g W2).mono ?_
  rintro e w3 ⟨rfl, hb⟩
  replace hf := hf.kept hb
  replace hg := hg.kept hb
  replace hu := hu.kept hb
  replace hB := hB.trans (hb.mono hB.size)
  clear hb
  have cf := hf.conj
  have lf := hf.lt
  go_wp2_with fail
  clear cf lf
  obtain ⟨M, hM⟩ : ∃ M, w3.heap.size = M := ⟨_, rfl⟩
  obtain ⟨W3, hW3⟩ : ∃ W3, w3.alloc (.cells #[.int .u64 (setW (fun i => f i && g i) 0), .int .u64 (setW (fun i => f i && g i) 1), .int .u64 (setW (fun i => f i && g i) 2), .int .u64 (setW (fun i => f i && g i) 3)] 24) = W3 := ⟨_, rfl⟩
  have hm : SetAt (fun i => f i && g i) M W3 := by rw [← hW3]; exact SetAt.new hM.symm rfl rfl rfl rfl
  replace hf : SetAt f w.heap.size W3 := by rw [← hW3]; exact hf.kept ((Below.refl _ _).alloc (Nat.le_refl _) _)
  replace hg : SetAt g (w.heap.size + 1) W3 := by rw [← hW3]; exact hg.kept ((Below.refl _ _).alloc (Nat.le_refl _) _)
  replace hu : SetAt (fun i => f i || g i) U W3 := by rw [← hW3]; exact hu.kept ((Below.refl _ _).alloc (Nat.le_refl _) _)
  replace hB : Below w.heap.size w W3 := by rw [← hW3]; exact hB.alloc hB.size _
  rw [hW3, hM]
  clear hW3 hM
  refine (not_any f W3).mono ?_
  rintro e w4 ⟨rfl, hb⟩
  replace hf := hf.kept hb
  replace hg := hg.kept hb
  replace hu := hu.kept hb
  replace hm := hm.kept hb
  replace hB := hB.trans (hb.mono hB.size)
  clear hb
  go_wp2_with fail
  obtain ⟨N, hN⟩ : ∃ N, w4.heap.size = N := ⟨_, rfl⟩
  obtain ⟨W4, hW4⟩ : ∃ W4, w4.alloc (.cells #[.int .u64 (setW (fun i => !f i) 0), .int .u64 (setW (fun i => !f i) 1), .int .u64 (setW (fun i => !f i) 2), .int .u64 (setW (fun i => !f i) 3)] 24) = W4 := ⟨_, rfl⟩
  have hk4 : Below w4.heap.size w4 W4 := by rw [← hW4]; exact (Below.refl _ _).alloc (Nat.le_refl _) _
  have hall : CombAt f g w.heap.size (w.heap.size + 1) U M N W4 := ⟨hf.kept hk4, hg.kept hk4, hu.kept hk4, hm.kept hk4, by rw [← hW4]; exact SetAt.new hN.symm rfl rfl rfl rfl⟩
  replace hB : Below w.heap.size w W4 := hB.trans (hk4.mono hB.size)
  rw [hW4, hN]
  clear hW4 hN hk4 hf hg hu hm
  go_loopw [8] (fun c wr => ∃ k : Nat, k ≤ 256 ∧ c = .int .i64 k ∧ CombAt f g w.heap.size (w.heap.size + 1) U M N wr ∧ Below w.heap.size w wr) (fun c _ => (256 - (intOf c).toNat))
  case atStart => exact ⟨0, by omega, rfl, hall, hB⟩
  case round =>
    clear hall hB
    obtain ⟨k, hk, rfl, hall, hB⟩ := hrel
    by_cases hlt : k < 256
    · cases hf : f k <;> cases hg : g k
      all_goals
        have Hf := Lib.hid hf
        have Hg := Lib.hid hg
        have Hu := Lib.hid (show (fun i => f i || g i) k = _ from by show (f k || g k) = _; rw [hf, hg])
        have Hm := Lib.hid (show (fun i => f i && g i) k = _ from by show (f k && g k) = _; rw [hf, hg])
        have Hn := Lib.hid (show (fun i => !f i) k = _ from by show (!f k) = _; rw [hf])
        clear hf hg
        have hc := hall
        unfold CombAt at hc
        obtain ⟨c1, c2, c3, c4, c5⟩ := hc
        replace c1 := c1.conj
        replace c2 := c2.conj
        replace c3 := c3.conj
        replace c4 := c4.conj
        replace c5 := c5.conj
        go_wp2_with (first
          | (go_at_call 10; with_reducible refine (rhas_is f k _ Hf.out hlt _).mono ?_; rintro e w3 ⟨rfl, hb⟩; replace c1 := four_kept hb c1; replace c2 := four_kept hb c2; replace c3 := four_kept hb c3; replace c4 := four_kept hb c4; replace c5 := four_kept hb c5; replace hall := hall.kept hb; replace hB := hB.trans (hb.mono hB.size); clear hb)
          | (go_at_call 10; with_reducible refine (rhas_is g k _ Hg.out hlt _).mono ?_; rintro e w3 ⟨rfl, hb⟩; replace c1 := four_kept hb c1; replace c2 := four_kept hb c2; replace c3 := four_kept hb c3; replace c4 := four_kept hb c4; replace c5 := four_kept hb c5; replace hall := hall.kept hb; replace hB := hB.trans (hb.mono hB.size); clear hb)
          | (go_at_call 10; with_reducible refine (rhas_is (fun i => f i || g i) k _ Hu.out hlt _).mono ?_; rintro e w3 ⟨rfl, hb⟩; replace c1 := four_kept hb c1; replace c2 := four_kept hb c2; replace c3 := four_kept hb c3; replace c4 := four_kept hb c4; replace c5 := four_kept hb c5; replace hall := hall.kept hb; replace hB := hB.trans (hb.mono hB.size); clear hb)
          | (go_at_call 10; with_reducible refine (rhas_is (fun i => f i && g i) k _ Hm.out hlt _).mono ?_; rintro e w3 ⟨rfl, hb⟩; replace c1 := four_kept hb c1; replace c2 := four_kept hb c2; replace c3 := four_kept hb c3; replace c4 := four_kept hb c4; replace c5 := four_kept hb c5; replace hall := hall.kept hb; replace hB := hB.trans (hb.mono hB.size); clear hb)
          | (go_at_call 10; with_reducible refine (rhas_is (fun i => !f i) k _ Hn.out hlt _).mono ?_; rintro e w3 ⟨rfl, hb⟩; replace c1 := four_kept hb c1; replace c2 := four_kept hb c2; replace c3 := four_kept hb c3; replace c4 := four_kept hb c4; replace c5 := four_kept hb c5; replace hall := hall.kept hb; replace hB := hB.trans (hb.mono hB.size); clear hb))
        clear c1 c2 c3 c4 c5
        go_roundw
        case rel => exact ⟨k + 1, by omega, by go_num, hall, hB⟩
        case measure => simp [intOf]; omega
    · clear hall
      go_wp2
      go_ret
      exact ⟨rfl, hB⟩
end Go.Proofs.Ytcfjclcbfhajcaa
