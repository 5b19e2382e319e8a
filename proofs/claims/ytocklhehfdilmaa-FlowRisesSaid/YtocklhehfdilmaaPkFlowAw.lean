/- flow: the fixed examples. -/
import Derived.Deep.RegionHeld3
import Derived.Deep.Cut
import Derived.Test.YtocklhehfdilmaaPkI
import Derived.Test.YtocklhehfdilmaaPkFlowRT
namespace Go.Proofs.Ytocklhehfdilmaa
open Go.RowKit
attribute [local go_sem ↓] exec_eqlF
attribute [local go_sem] eqFv_mk orElseF_some
def x11R : List PR := [⟨⟨#[65]⟩, 4⟩]
def x11N : List PN := [⟨1, [], 0, 0, 8589934592, 0, 0⟩, ⟨2, [], 0, 0, 0, 0, 0⟩, ⟨3, [0, 1], 0, 0, 0, 0, 0⟩, ⟨0, [], 0, 0, 0, 0, 0⟩, ⟨4, [2, 3], 0, 0, 0, 0, 0⟩]
def x11L : List Fc := [⟨false, true, true⟩, ⟨true, true, false⟩, ⟨false, true, true⟩, ⟨true, false, false⟩, ⟨true, true, false⟩]
def x11S : List Fc := [⟨false, true, true⟩, ⟨false, false, false⟩, ⟨false, false, false⟩, ⟨true, false, false⟩, ⟨false, false, false⟩]
theorem x11_lfp : lfp x11R x11N = x11L := by decide
theorem x11_step : stepF x11R x11N (List.replicate 5 fc0) = x11S := by decide
theorem x11_ok : FlowOk x11R x11N := by
  refine ⟨by decide, fun n hn => ?_, fun n hn => ?_⟩
  · simp only [x11N, List.mem_cons, List.not_mem_nil, or_false] at hn
    rcases hn with rfl | rfl | rfl | rfl | rfl <;> decide
  · simp only [x11N, List.mem_cons, List.not_mem_nil, or_false] at hn
    rcases hn with rfl | rfl | rfl | rfl | rfl
    · exact ⟨⟨by decide, by decide, fun h => absurd h (by decide)⟩, fun k hk => by simp at hk, fun h => absurd h (by decide)⟩
    · exact ⟨⟨by decide, by decide, fun h => absurd h (by decide)⟩, fun k hk => by simp at hk, fun _ => ⟨0, ⟨⟨#[65]⟩, 4⟩, rfl, rfl, by decide, by decide⟩⟩
    · exact ⟨⟨by decide, by decide, fun h => absurd h (by decide)⟩, fun k hk => (by simp only [List.mem_cons, List.not_mem_nil, or_false] at hk; rcases hk with rfl | rfl <;> decide), fun h => absurd h (by decide)⟩
    · exact ⟨⟨by decide, by decide, fun h => absurd h (by decide)⟩, fun k hk => by simp at hk, fun h => absurd h (by decide)⟩
    · exact ⟨⟨by decide, by decide, fun h => absurd h (by decide)⟩, fun k hk => (by simp only [List.mem_cons, List.not_mem_nil, or_false] at hk; rcases hk with rfl | rfl <;> decide), fun h => absurd h (by decide)⟩
theorem aw11K {n0 G lb lo sb so : Nat} {rv nv : Value} {w W W' : World} (hn : n0 ≤ w.heap.size) (hb : Below W.heap.size W W') (h : W.cell? ⟨G, 0, none⟩ = some (rv) ∧ W.cell? ⟨G, 1, none⟩ = some (nv) ∧ W.cell? ⟨lb, lo + 6, none⟩ = some (.bool false) ∧ W.cell? ⟨lb, lo + 7, none⟩ = some (.bool true) ∧ W.cell? ⟨lb, lo + 8, none⟩ = some (.bool true) ∧ W.cell? ⟨lb, lo + 12, none⟩ = some (.bool true) ∧ W.cell? ⟨lb, lo + 13, none⟩ = some (.bool true) ∧ W.cell? ⟨lb, lo + 14, none⟩ = some (.bool false) ∧ W.cell? ⟨sb, so, none⟩ = some (.bool false) ∧ W.cell? ⟨sb, so + 1, none⟩ = some (.bool true) ∧ W.cell? ⟨sb, so + 2, none⟩ = some (.bool true) ∧ W.cell? ⟨sb, so + 3, none⟩ = some (.bool false) ∧ W.cell? ⟨sb, so + 4, none⟩ = some (.bool false) ∧ W.cell? ⟨sb, so + 5, none⟩ = some (.bool false) ∧ Below n0 w W) : W'.cell? ⟨G, 0, none⟩ = some (rv) ∧ W'.cell? ⟨G, 1, none⟩ = some (nv) ∧ W'.cell? ⟨lb, lo + 6, none⟩ = some (.bool false) ∧ W'.cell? ⟨lb, lo + 7, none⟩ = some (.bool true) ∧ W'.cell? ⟨lb, lo + 8, none⟩ = some (.bool true) ∧ W'.cell? ⟨lb, lo + 12, none⟩ = some (.bool true) ∧ W'.cell? ⟨lb, lo + 13, none⟩ = some (.bool true) ∧ W'.cell? ⟨lb, lo + 14, none⟩ = some (.bool false) ∧ W'.cell? ⟨sb, so, none⟩ = some (.bool false) ∧ W'.cell? ⟨sb, so + 1, none⟩ = some (.bool true) ∧ W'.cell? ⟨sb, so + 2, none⟩ = some (.bool true) ∧ W'.cell? ⟨sb, so + 3, none⟩ = some (.bool false) ∧ W'.cell? ⟨sb, so + 4, none⟩ = some (.bool false) ∧ W'.cell? ⟨sb, so + 5, none⟩ = some (.bool false) ∧ Below n0 w W' := by
  obtain ⟨h0, h1, a0, a1, a2, a3, a4, a5, b0, b1, b2, b3, b4, b5, hB⟩ := h
  have hk : ∀ {b o : Nat} {v : Value}, W.cell? ⟨b, o, none⟩ = some v → W'.cell? ⟨b, o, none⟩ = some v := fun h => by rw [(bcell hb).1 _ _ (lt_of_cell h)]; exact h
  exact ⟨hk h0, hk h1, hk a0, hk a1, hk a2, hk a3, hk a4, hk a5, hk b0, hk b1, hk b2, hk b3, hk b4, hk b5, hB.trans (hb.mono (Nat.le_trans hn hB.size))⟩
set_option maxHeartbeats 8000000 in
set_option maxRecDepth 100000 in
theorem awake11_any (w : World) : Calls Try.prog 8 #[] w fun e w' => e = .returned (.bool true) ∧ Below w.heap.size w w' := by
  have hmk : ∀ w, (Instr.makeSlice 32 (.int .i64 5) (.int .i64 5)).run Try.prog w = .ok (.slice (some ⟨w.heap.size, 0, none⟩) 5 5) (w.alloc (.cells (madeCells #[.bool false, .bool false, .bool false] 15) 36)) := fun w => run_make_facts .i64 .i64 5 (by omega) w
  have HZ := Lib.hid (fun (V : World) => show FactsAt (V.alloc (.cells (madeCells #[.bool false, .bool false, .bool false] 15) 36)).drew (.slice (some ⟨V.heap.size, 0, none⟩) 5 5) (List.replicate 5 fc0) from (FBk.made V 5 36).facts (by decide))
  go_enter Try.func8, Try.ntmps8
  go_upto_region 2 with (fail)
  generalize hW : World.alloc (World.alloc (World.alloc (World.alloc (World.alloc _ _) _) _) _) _ = W
  have bA : Bl W w.heap.size 39 #[.string ⟨#[65]⟩, .int .i64 4] := by rw [← hW]; exact Bl.past (Bl.past (Bl.past (Bl.past (Bl.new w _ _))))
  have bB : Bl W (w.heap.size + 1) 3 #[.int .i64 0, .int .i64 1] := by rw [← hW]; exact Bl.past (Bl.past (Bl.past (Bl.new' (by simp))))
  have bC : Bl W (w.heap.size + 1 + 1) 3 #[.int .i64 2, .int .i64 3] := by rw [← hW]; exact Bl.past (Bl.past (Bl.new' (by simp)))
  have bD : Bl W (w.heap.size + 1 + 1 + 1) 53 #[.int .i64 1, .slice none 0 0, .int .i64 0, .int .u64 0, .int .u64 8589934592, .int .u64 0, .int .u64 0, .int .i64 2, .slice none 0 0, .int .i64 0, .int .u64 0, .int .u64 0, .int .u64 0, .int .u64 0, .int .i64 3, .slice (some ⟨w.heap.size + 1, 0, none⟩) 2 2, .int .i64 0, .int .u64 0, .int .u64 0, .int .u64 0, .int .u64 0, .int .i64 0, .slice none 0 0, .int .i64 0, .int .u64 0, .int .u64 0, .int .u64 0, .int .u64 0, .int .i64 4, .slice (some ⟨w.heap.size + 1 + 1, 0, none⟩) 2 2, .int .i64 0, .int .u64 0, .int .u64 0, .int .u64 0, .int .u64 0] := by rw [← hW]; exact Bl.past (Bl.new' (by simp))
  have bE : Bl W (w.heap.size + 1 + 1 + 1 + 1) 25 #[.slice (some ⟨w.heap.size, 0, none⟩) 1 1, .slice (some ⟨w.heap.size + 1 + 1 + 1, 0, none⟩) 5 5] := by rw [← hW]; exact Bl.new' (by simp)
  have hB : Below w.heap.size w W := by rw [← hW]; exact bl_new (four_new _ _ _ _ _)
  clear hW
  have hR : RulesIn W (.slice (some ⟨w.heap.size, 0, none⟩) 1 1) x11R := ⟨by decide, _, _, rfl, .inr ⟨_, 0, rfl, fun i r hr => by
    match i, hr with
    | 0, hr => obtain rfl := Option.some.inj hr; exact ⟨bA.cell (o := 0) rfl, bA.cell (o := 1) rfl⟩
    | i + 1, hr => simp [x11R] at hr⟩⟩
  have hN : NodesAt W (.slice (some ⟨w.heap.size + 1 + 1 + 1, 0, none⟩) 5 5) x11N := ⟨by decide, _, _, rfl, .inr ⟨_, 0, rfl, fun i r hr => by
    match i, hr with
    | 0, hr => obtain rfl := Option.some.inj hr; exact ⟨.slice none 0 0, bD.cell (o := 0) rfl, bD.cell (o := 1) rfl, bD.cell (o := 2) rfl, bD.cell (o := 3) rfl, bD.cell (o := 4) rfl, bD.cell (o := 5) rfl, bD.cell (o := 6) rfl, ⟨none, 0, rfl, .inl rfl⟩, by decide⟩
    | 1, hr => obtain rfl := Option.some.inj hr; exact ⟨.slice none 0 0, bD.cell (o := 7) rfl, bD.cell (o := 8) rfl, bD.cell (o := 9) rfl, bD.cell (o := 10) rfl, bD.cell (o := 11) rfl, bD.cell (o := 12) rfl, bD.cell (o := 13) rfl, ⟨none, 0, rfl, .inl rfl⟩, by decide⟩
    | 2, hr => obtain rfl := Option.some.inj hr; exact ⟨.slice (some ⟨w.heap.size + 1, 0, none⟩) 2 2, bD.cell (o := 14) rfl, bD.cell (o := 15) rfl, bD.cell (o := 16) rfl, bD.cell (o := 17) rfl, bD.cell (o := 18) rfl, bD.cell (o := 19) rfl, bD.cell (o := 20) rfl, ⟨_, 2, rfl, .inr ⟨_, 0, rfl, fun j x hx => by
        match j, hx with
        | 0, hx => obtain rfl := Option.some.inj hx; exact bB.cell (o := 0) rfl
        | 1, hx => obtain rfl := Option.some.inj hx; exact bB.cell (o := 1) rfl
        | j + 2, hx => simp at hx⟩⟩, by decide⟩
    | 3, hr => obtain rfl := Option.some.inj hr; exact ⟨.slice none 0 0, bD.cell (o := 21) rfl, bD.cell (o := 22) rfl, bD.cell (o := 23) rfl, bD.cell (o := 24) rfl, bD.cell (o := 25) rfl, bD.cell (o := 26) rfl, bD.cell (o := 27) rfl, ⟨none, 0, rfl, .inl rfl⟩, by decide⟩
    | 4, hr => obtain rfl := Option.some.inj hr; exact ⟨.slice (some ⟨w.heap.size + 1 + 1, 0, none⟩) 2 2, bD.cell (o := 28) rfl, bD.cell (o := 29) rfl, bD.cell (o := 30) rfl, bD.cell (o := 31) rfl, bD.cell (o := 32) rfl, bD.cell (o := 33) rfl, bD.cell (o := 34) rfl, ⟨_, 2, rfl, .inr ⟨_, 0, rfl, fun j x hx => by
        match j, hx with
        | 0, hx => obtain rfl := Option.some.inj hx; exact bC.cell (o := 0) rfl
        | 1, hx => obtain rfl := Option.some.inj hx; exact bC.cell (o := 1) rfl
        | j + 2, hx => simp at hx⟩⟩, by decide⟩
    | i + 5, hr => simp [x11N] at hr⟩⟩
  have HF := Lib.hid (fun (V : World) (hb : Below W.heap.size W V) => fof_any _ _ x11R x11N V (hR.kept hb (Nat.le_refl _)) (hN.kept hb (Nat.le_refl _)) x11_ok)
  have HSt := Lib.hid (fun (v : Value) (V : World) (hb : Below W.heap.size W V) (hF : FactsAt V v (List.replicate 5 fc0)) => fstep_any _ _ v x11R x11N _ V (hR.kept hb (Nat.le_refl _)) (hN.kept hb (Nat.le_refl _)) hF (fun n hn => (x11_ok.ok n hn).ok) (by decide))
  have HRu := Lib.hid (fun (V : World) (hb : Below W.heap.size W V) => frule_any _ _ x11R x11N 0 V (hR.kept hb (Nat.le_refl _)) (hN.kept hb (Nat.le_refl _)) x11_ok)
  rw [x11_lfp] at HF
  rw [x11_step] at HSt
  rw [x11_lfp, show atF x11L (rootF x11R 0) = ⟨true, true, false⟩ by decide] at HRu
  unfold NewF at HF HSt
  rw [show x11L.length = 5 from rfl] at HF
  rw [show x11S.length = 5 from rfl] at HSt
  have HT1 := Lib.hid (fun V => ftext_any ⟨false, true, true⟩ V)
  have HT2 := Lib.hid (fun V => ftext_any ⟨true, true, false⟩ V)
  have HT3 := Lib.hid (fun V => ftext_any ⟨false, false, false⟩ V)
  rw [show textF ⟨false, true, true⟩ = ⟨#[101, 102]⟩ from rfl] at HT1
  rw [show textF ⟨true, true, false⟩ = ⟨#[110, 101]⟩ from rfl] at HT2
  rw [show textF ⟨false, false, false⟩ = ⟨#[45]⟩ from rfl] at HT3
  unfold factV at HT1 HT2 HT3
  unfold factV at HRu
  have hBB : Below W.heap.size W W := Below.refl _ _
  have HBB := Lib.hid hBB
  have HE := Lib.hid bE
  have HB := Lib.hid hB
  have g0 := bE.cell (o := 0) (u := .slice (some ⟨w.heap.size, 0, none⟩) 1 1) rfl
  have g1 := bE.cell (o := 1) (u := .slice (some ⟨w.heap.size + 1 + 1 + 1, 0, none⟩) 5 5) rfl
  have lE := bE.lt
  clear bA bB bC bD bE hB hR hN hBB
  generalize w.heap.size + 1 + 1 + 1 + 1 = G at *
  go_upto_region 3 with (go_at_call 13; (with_reducible refine (HF.out _ HBB.out).mono ?_); rintro e w1 ⟨a1, c1, rfl, hf, hb⟩; have HB1 := Lib.hid hb; have HF1 := Lib.hid hf; have hE1 := HE.out.below hb; have h0 : w1.cell? ⟨G, 0, none⟩ = some (.slice (some ⟨w.heap.size, 0, none⟩) 1 1) := hE1.cell (o := 0) rfl; have h1 : w1.cell? ⟨G, 1, none⟩ = some (.slice (some ⟨w.heap.size + 1 + 1 + 1, 0, none⟩) 5 5) := hE1.cell (o := 1) rfl; have HE1 := Lib.hid hE1; clear hb hf hE1)
  have lE1 : G < w1.heap.size := HE1.out.lt
  clear g0 g1 lE HE
  go_region_with (go_at_call 15; (with_reducible refine (HSt.out _ _ (Below.drew (Below.alloc HB1.out HB1.out.size _)) (HZ.out _)).mono ?_); rintro e w2 ⟨a2, c2, rfl, hf, hb⟩; have HB2 := Lib.hid ((Below.drew (Below.alloc HB1.out HB1.out.size _)).trans (hb.mono (Below.drew (Below.alloc HB1.out HB1.out.size _)).size)); have HF2 := Lib.hid hf; have hE2 := (Bl.drew (Bl.past HE1.out)).below hb; have k0 : w2.cell? ⟨G, 0, none⟩ = some (.slice (some ⟨w.heap.size, 0, none⟩) 1 1) := hE2.cell (o := 0) rfl; have k1 : w2.cell? ⟨G, 1, none⟩ = some (.slice (some ⟨w.heap.size + 1 + 1 + 1, 0, none⟩) 5 5) := hE2.cell (o := 1) rfl; have HF12 := Lib.hid ((HF1.out.kept (Below.drew (one_new w1 (.cells (madeCells #[.bool false, .bool false, .bool false] 15) 36))) (Nat.le_refl _)).below hb); clear hb hf hE2)
  all_goals
    obtain ⟨lb, lo, rfl, hl⟩ := HF12.out.open (by decide)
    obtain ⟨sb, so, rfl, hs⟩ := HF2.out.open (by decide)
    obtain ⟨a0, a1, a2⟩ := hl 2 _ rfl
    obtain ⟨a3, a4, a5⟩ := hl 4 _ rfl
    obtain ⟨b0, b1, b2⟩ := hs 0 _ rfl
    obtain ⟨b3, b4, b5⟩ := hs 1 _ rfl
    obtain ⟨n0, hn0⟩ : ∃ n0, W.heap.size = n0 := ⟨_, rfl⟩
    have hnw : n0 ≤ W.heap.size := Nat.le_of_eq hn0.symm
    have HN0 := Lib.hid hn0
    have hS : (fun V : World => V.cell? ⟨G, 0, none⟩ = some (.slice (some ⟨w.heap.size, 0, none⟩) 1 1) ∧ V.cell? ⟨G, 1, none⟩ = some (.slice (some ⟨w.heap.size + 1 + 1 + 1, 0, none⟩) 5 5) ∧ V.cell? ⟨lb, lo + 6, none⟩ = some (.bool false) ∧ V.cell? ⟨lb, lo + 7, none⟩ = some (.bool true) ∧ V.cell? ⟨lb, lo + 8, none⟩ = some (.bool true) ∧ V.cell? ⟨lb, lo + 12, none⟩ = some (.bool true) ∧ V.cell? ⟨lb, lo + 13, none⟩ = some (.bool true) ∧ V.cell? ⟨lb, lo + 14, none⟩ = some (.bool false) ∧ V.cell? ⟨sb, so, none⟩ = some (.bool false) ∧ V.cell? ⟨sb, so + 1, none⟩ = some (.bool true) ∧ V.cell? ⟨sb, so + 2, none⟩ = some (.bool true) ∧ V.cell? ⟨sb, so + 3, none⟩ = some (.bool false) ∧ V.cell? ⟨sb, so + 4, none⟩ = some (.bool false) ∧ V.cell? ⟨sb, so + 5, none⟩ = some (.bool false) ∧ Below n0 W V) w2.drew := ⟨k0, k1, a0, a1, a2, a3, a4, a5, b0, b1, b2, b3, b4, b5, by rw [← hn0]; exact HB2.out.drew⟩
    clear hl hs a0 a1 a2 a3 a4 a5 b0 b1 b2 b3 b4 b5 hn0 HF HSt HF1 HF2 HF12 HE1 h0 h1 hmk HZ lE1
    dsimp only at hS
    go_upto_region 6 with (fail)
    go_region_held3 (fun V : World => V.cell? ⟨G, 0, none⟩ = some (.slice (some ⟨w.heap.size, 0, none⟩) 1 1) ∧ V.cell? ⟨G, 1, none⟩ = some (.slice (some ⟨w.heap.size + 1 + 1 + 1, 0, none⟩) 5 5) ∧ V.cell? ⟨lb, lo + 6, none⟩ = some (.bool false) ∧ V.cell? ⟨lb, lo + 7, none⟩ = some (.bool true) ∧ V.cell? ⟨lb, lo + 8, none⟩ = some (.bool true) ∧ V.cell? ⟨lb, lo + 12, none⟩ = some (.bool true) ∧ V.cell? ⟨lb, lo + 13, none⟩ = some (.bool true) ∧ V.cell? ⟨lb, lo + 14, none⟩ = some (.bool false) ∧ V.cell? ⟨sb, so, none⟩ = some (.bool false) ∧ V.cell? ⟨sb, so + 1, none⟩ = some (.bool true) ∧ V.cell? ⟨sb, so + 2, none⟩ = some (.bool true) ∧ V.cell? ⟨sb, so + 3, none⟩ = some (.bool false) ∧ V.cell? ⟨sb, so + 4, none⟩ = some (.bool false) ∧ V.cell? ⟨sb, so + 5, none⟩ = some (.bool false) ∧ Below n0 W V) (first | exact hS)
      (first
        | (go_at_call 19; with_reducible refine (HT1.out _).mono ?_; rintro ev w5 ⟨rfl, hb⟩; replace hS := aw11K hnw hb hS; clear hb)
        | (go_at_call 19; with_reducible refine (HT2.out _).mono ?_; rintro ev w5 ⟨rfl, hb⟩; replace hS := aw11K hnw hb hS; clear hb)
        | (go_at_call 19; with_reducible refine (HT3.out _).mono ?_; rintro ev w5 ⟨rfl, hb⟩; replace hS := aw11K hnw hb hS; clear hb)
        | (go_at_call 14; with_reducible refine (HRu.out _ (by rw [HN0.out]; exact hS.2.2.2.2.2.2.2.2.2.2.2.2.2.2)).mono ?_; rintro ev w5 ⟨rfl, hb⟩; replace hS := aw11K hnw hb hS; clear hb))
    have HBF := Lib.hid hS.2.2.2.2.2.2.2.2.2.2.2.2.2.2
    clear hS
    go_wp2
    go_ret
    exact ⟨rfl, HB.out.trans ((by rw [HN0.out]; exact HBF.out : Below W.heap.size W _).mono HB.out.size)⟩
end Go.Proofs.Ytocklhehfdilmaa
