/- flow.single: a prefix or suffix. -/
import Derived.Deep.RegionHeld3
import Derived.Test.YtocklhehfdilmaaPkK
import Derived.Test.YtocklhehfdilmaaPkFlowMem
namespace Go.Proofs.Ytocklhehfdilmaa
open Go.RowKit
set_option maxHeartbeats 4000000 in
theorem fsing_any (op : Int) (f : Fc) (w : World) (h5 : 5 ≤ op) (h9 : op ≤ 9) : Calls Try.prog 37 #[.int .i64 op, factV f] w fun e w' => e = .returned (factV (singF op f)) ∧ Below w.heap.size w w' := by
  rcases (show op = 5 ∨ op = 6 ∨ op = 7 ∨ op = 8 ∨ op = 9 by omega) with rfl | rfl | rfl | rfl | rfl
  · rw [show singF 5 f = ⟨f.fai, f.eat, false⟩ from rfl]
    obtain ⟨a, b, c⟩ := f
    unfold factV
    go_enter Try.func37, Try.ntmps37
    go_wp2
    exact bodyPost_ret (v := .agg #[.bool c, .bool b, .bool false]) (by simp [results, Try.results37, go_sem]) rfl ⟨rfl, two_new _ _ _⟩
  · rw [show singF 6 f = ⟨f.nul && f.fai, f.eat, f.fai⟩ from rfl]
    obtain ⟨a, b, c⟩ := f
    unfold factV
    cases a <;>
    · go_enter Try.func37, Try.ntmps37
      go_wp2
      exact bodyPost_ret (v := .agg #[.bool _, .bool b, .bool c]) (by simp [results, Try.results37, go_sem]) rfl ⟨rfl, two_new _ _ _⟩
  · rw [show singF 7 f = ⟨f.nul || f.fai, f.eat, false⟩ from rfl]
    obtain ⟨a, b, c⟩ := f
    unfold factV
    cases a <;>
    · go_enter Try.func37, Try.ntmps37
      go_wp2
      exact bodyPost_ret (v := .agg #[.bool _, .bool b, .bool false]) (by simp [results, Try.results37, go_sem]) rfl ⟨rfl, two_new _ _ _⟩
  · rw [show singF 8 f = ⟨f.ok, false, f.fai⟩ from rfl]
    have HS := Lib.hid fun W => fsucc_any f W
    obtain ⟨W, hW⟩ : ∃ W, ((w.alloc (Obj.cells #[.bool f.nul, .bool f.eat, .bool f.fai] 36)).alloc (Obj.cells #[.bool false, .bool false, .bool false] 36)) = W := ⟨_, rfl⟩
    have hB : Below w.heap.size w W := by rw [← hW]; exact two_new _ _ _
    have b1 : Bl W w.heap.size 36 #[.bool f.nul, .bool f.eat, .bool f.fai] := by rw [← hW]; exact Bl.past (Bl.new w _ _)
    have b2 : Bl W (w.heap.size + 1) 36 #[.bool false, .bool false, .bool false] := by rw [← hW]; exact Bl.new' (by simp)
    unfold factV at HS
    unfold factV
    go_enter Try.func37, Try.ntmps37
    go_wp2_with (fail)
    have a0 := b1.c0
    have a1 := b1.c1
    have a2 := b1.c2
    have l1 := b1.lt
    have l2 := b2.lt
    have HB := Lib.hid hB
    have B1 := Lib.hid b1
    have B2 := Lib.hid b2
    clear hW hB b1 b2
    go_region_with (go_at_call 45; (with_reducible refine (HS.out _).mono ?_); rintro e w4 ⟨rfl, hb⟩; have HB4 := Lib.hid ((HB.out.drew).trans (hb.mono HB.out.size)); have b2 := B2.out.drew.below hb; have c0 := b2.c0; have c1 := b2.c1; have c2 := b2.c2; have cf := b2.free; have b1 := B1.out.drew.below hb; have d2 := b1.c2; have B24 := Lib.hid b2; clear hb b1 b2)
    all_goals go_wp2
    all_goals
      have b2 := ((B24.out.p0 (.bool f.ok)).p1 (.bool false)).p2 (.bool f.fai)
      have r0 := b2.c0
      have r1 := b2.c1
      have r2 := b2.c2
      exact bodyPost_ret (v := .agg #[.bool f.ok, .bool false, .bool f.fai]) (by simp [results, Try.results37, go_sem, r0, r1, r2]) rfl ⟨rfl, below_p3 HB4.out (Nat.le_succ _) _ _ _⟩
  · rw [show singF 9 f = ⟨f.fai, false, f.ok⟩ from rfl]
    have HS := Lib.hid fun W => fsucc_any f W
    obtain ⟨W, hW⟩ : ∃ W, ((w.alloc (Obj.cells #[.bool f.nul, .bool f.eat, .bool f.fai] 36)).alloc (Obj.cells #[.bool false, .bool false, .bool false] 36)) = W := ⟨_, rfl⟩
    have hB : Below w.heap.size w W := by rw [← hW]; exact two_new _ _ _
    have b1 : Bl W w.heap.size 36 #[.bool f.nul, .bool f.eat, .bool f.fai] := by rw [← hW]; exact Bl.past (Bl.new w _ _)
    have b2 : Bl W (w.heap.size + 1) 36 #[.bool false, .bool false, .bool false] := by rw [← hW]; exact Bl.new' (by simp)
    unfold factV at HS
    unfold factV
    go_enter Try.func37, Try.ntmps37
    go_wp2_with (fail)
    have a0 := b1.c0
    have a1 := b1.c1
    have a2 := b1.c2
    have l1 := b1.lt
    have l2 := b2.lt
    have HB := Lib.hid hB
    have B1 := Lib.hid b1
    have B2 := Lib.hid b2
    clear hW hB b1 b2
    go_region_with (go_at_call 45; (with_reducible refine (HS.out _).mono ?_); rintro e w4 ⟨rfl, hb⟩; have HB4 := Lib.hid ((HB.out.drew).trans (hb.mono HB.out.size)); have b2 := B2.out.drew.below hb; have c0 := b2.c0; have c1 := b2.c1; have c2 := b2.c2; have cf := b2.free; have b1 := B1.out.drew.below hb; have d2 := b1.c2; have B24 := Lib.hid b2; clear hb b1 b2)
    all_goals go_wp2
    all_goals
      have b2 := ((B24.out.p0 (.bool f.fai)).p1 (.bool false)).p2 (.bool f.ok)
      have r0 := b2.c0
      have r1 := b2.c1
      have r2 := b2.c2
      exact bodyPost_ret (v := .agg #[.bool f.fai, .bool false, .bool f.ok]) (by simp [results, Try.results37, go_sem, r0, r1, r2]) rfl ⟨rfl, below_p3 HB4.out (Nat.le_succ _) _ _ _⟩
end Go.Proofs.Ytocklhehfdilmaa
