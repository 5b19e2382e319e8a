/- The fixed examples of package build. -/
import Derived.Test.YtnebdnonkefloaaBuildLit
import Derived.Test.YtnebdnonkefloaaBuildApp
import Derived.Test.YtnebdnonkefloaaBuildLawAgain
import Derived.Lib.SlBytesConst
namespace Go.Proofs.Ytnebdnonkefloaa
open Go.RowKit
def awI : List PI := [⟨3, 2, 0, 0, 0, 0, 0⟩, ⟨1, 0, 0, 0, 8589934592, 0, 0⟩, ⟨2, 0, 0, 0, 0, 0, 0⟩]
def awL : List PQ := [⟨⟨#[65]⟩, awI⟩]
def awN : List PN := [⟨1, [], 0, 0, 8589934592, 0, 0⟩, ⟨2, [], 0, 0, 0, 0, 0⟩, ⟨3, [0, 1], 0, 0, 0, 0, 0⟩]
def awR : List PR := [⟨⟨#[65]⟩, 2⟩]
theorem aw_of : ofL awL [] [] = some (awR, awN) := by kernel_rfl
theorem aw_no : ofL [⟨⟨#[65]⟩, []⟩] [] [] = none := by kernel_rfl
theorem aw_items : itemsR awR awN = awL := by kernel_rfl
theorem aw_ord : ordR awN awR (-1) = true := by kernel_rfl
theorem aw_first : fstL awN ((2 : Nat) : Int) = ((0 : Nat) : Int) := by kernel_rfl
theorem aw_ex : exL awN ((2 : Nat) : Int) ≠ -2 := by
  have : exL awN ((2 : Nat) : Int) = -1 := by kernel_rfl
  rw [this]; decide
theorem aw_app : (awN ++ ((awN.drop 0).take (2 + 1 - 0)).map (movN ((awN.length : Int) - ((0 : Nat) : Int)))).length = 6 := by kernel_rfl
theorem aw_lit : litItems [97, 98] = litItems [97, 98] ∧ (litItems [97, 98]).length = 3 := ⟨rfl, by kernel_rfl⟩
theorem aw_rows (w : World) (n : Nat) (hn : w.heap.size = n) (W : World) (hW : (w.alloc (.cells #[.int .i64 3, .int .i64 2, .int .i64 0, .int .u64 0, .int .u64 0, .int .u64 0, .int .u64 0, .int .i64 1, .int .i64 0, .int .i64 0, .int .u64 0, .int .u64 8589934592, .int .u64 0, .int .u64 0, .int .i64 2, .int .i64 0, .int .i64 0, .int .u64 0, .int .u64 0, .int .u64 0, .int .u64 0] 64)).alloc (.cells #[.string ⟨#[65]⟩, .slice (some ⟨n, 0, none⟩) 3 3] 66) = W) :
    QsAt W (.slice (some ⟨n + 1, 0, none⟩) 1 1) awL ∧ Below w.heap.size w W := by
  have hb : Below w.heap.size w W := by rw [← hW]; exact two_new _ _ _
  have h1 : Bl W n 64 (itemsC awI).toArray := by
    rw [← hW, ← hn]; exact (Bl.new w _ _).past
  have h2 : Bl W (n + 1) 66 (rulesQ (awL.zip [.slice (some ⟨n, 0, none⟩) 3 3])).toArray := by
    rw [← hW]; exact Bl.new' (by simp [hn])
  have o1 := Bl.own (base := n) (n := 3) (size := 7) h1 (Nat.le_refl _) rfl (by decide)
  have o2 := Bl.own (base := n) (n := 1) (size := 2) h2 (by omega) rfl (by decide)
  have hq : QRow n 66 64 (.slice (some ⟨n + 1, 0, none⟩) 1 1) awL [.slice (some ⟨n, 0, none⟩) 3 3] W := ⟨rfl, o2, fun j q u hj hu => by
    match j, hj, hu with
    | 0, hj, hu =>
      obtain rfl := Option.some.inj hj
      obtain rfl := Option.some.inj hu
      exact o1
    | j + 1, hj, hu => simp [awL] at hj⟩
  exact ⟨hq.qs (by decide) (fun q hq => by obtain rfl := List.mem_singleton.1 hq; decide), hb⟩
theorem aw_empty (W : World) : QsAt (W.alloc (.cells #[.string ⟨#[65]⟩, .slice none 0 0] 66)) (.slice (some ⟨W.heap.size, 0, none⟩) 1 1) [⟨⟨#[65]⟩, []⟩] := by
  have h2 : Bl (W.alloc (.cells #[.string ⟨#[65]⟩, .slice none 0 0] 66)) W.heap.size 66 (rulesQ ([PQ.mk ⟨#[65]⟩ []].zip [.slice none 0 0])).toArray := Bl.new W _ _
  have o2 := Bl.own (base := W.heap.size) (n := 1) (size := 2) h2 (Nat.le_refl _) rfl (by decide)
  have hq : QRow W.heap.size 66 64 (.slice (some ⟨W.heap.size, 0, none⟩) 1 1) [PQ.mk ⟨#[65]⟩ []] [.slice none 0 0] (W.alloc (.cells #[.string ⟨#[65]⟩, .slice none 0 0] 66)) := ⟨rfl, o2, fun j q u hj hu => by
    match j, hj, hu with
    | 0, hj, hu =>
      obtain rfl := Option.some.inj hj
      obtain rfl := Option.some.inj hu
      exact World.ownsRow_nil _ _ _ _
    | j + 1, hj, hu => simp at hj⟩
  exact hq.qs (by decide) (fun q hq => by obtain rfl := List.mem_singleton.1 hq; decide)
set_option maxHeartbeats 8000000 in
set_option maxRecDepth 100000 in
theorem buildAwake : BuildAwake := fun w => by
  obtain ⟨n, hn⟩ : ∃ n, w.heap.size = n := ⟨_, rfl⟩
  go_enter Try.func8, Try.ntmps8
  go_upto_region 2 with fail
  obtain ⟨W1, hW1⟩ : ∃ W1, (w.alloc (.cells #[.int .i64 3, .int .i64 2, .int .i64 0, .int .u64 0, .int .u64 0, .int .u64 0, .int .u64 0, .int .i64 1, .int .i64 0, .int .i64 0, .int .u64 0, .int .u64 8589934592, .int .u64 0, .int .u64 0, .int .i64 2, .int .i64 0, .int .i64 0, .int .u64 0, .int .u64 0, .int .u64 0, .int .u64 0] 64)).alloc (.cells #[.string ⟨#[65]⟩, .slice (some ⟨n, 0, none⟩) 3 3] 66) = W1 := ⟨_, rfl⟩
  obtain ⟨hQ1, hB1⟩ := aw_rows w n hn W1 hW1
  rw [hW1]
  have HQ1 := Lib.hid hQ1
  have HB1 := Lib.hid hB1
  have hC1 := bof_any (.slice (some ⟨n + 1, 0, none⟩) 1 1) awL W1 hQ1 (by decide) (fun q hq => by obtain rfl := List.mem_singleton.1 hq; decide) (by decide)
  rw [aw_of] at hC1
  replace hC1 : Calls Try.prog 10 #[.slice (some ⟨n + 1, 0, none⟩) 1 1] W1 (OfYes awR awN W1) := hC1
  unfold OfYes at hC1
  have HC1 := Lib.hid hC1
  clear hW1 hQ1 hB1 hC1 hn
  go_upto_region 3 with (go_at_call 10; (with_reducible refine HC1.out.mono ?_); rintro e w2 ⟨rv, nv, qs, rfl, hr2, hn2, hb2⟩; obtain ⟨ra, rc, rfl⟩ := own_slice' hr2; obtain ⟨na, nc, rfl⟩ := own_slice' hn2.2.1; have HR2 := Lib.hid hr2; have HN2 := Lib.hid hn2; have HB2 := Lib.hid hb2; clear hr2 hn2 hb2)
  obtain ⟨W3, hW3⟩ : ∃ W3, w2.alloc (.cells #[.slice ra awR.length rc, .slice na awN.length nc] 36) = W3 := ⟨_, rfl⟩
  obtain ⟨G, hG⟩ : ∃ G, w2.heap.size = G := ⟨_, rfl⟩
  have hG3 : Bl W3 G 36 #[.slice ra awR.length rc, .slice na awN.length nc] := by rw [← hW3, ← hG]; exact Bl.new w2 _ _
  have hb3 : Below w2.heap.size w2 W3 := by rw [← hW3]; exact one_new _ _
  have hRI : RulesIn W3 (.slice ra awR.length rc) awR := RulesIn.of_own (ownsRow_grown HR2.out hb3) (by decide)
  have hNI : NodesAt W3 (.slice na awN.length nc) awN := (HN2.out.grown hb3).nodes (by decide) (fun m hm => by simp [awN] at hm; rcases hm with rfl | rfl | rfl <;> decide)
  have hcap : awN.length ≤ nc := (CellsAt.of_own HN2.out.2.1).cap
  have hB3 : Below w.heap.size w W3 := HB1.out.trans ((HB2.out.trans (hb3.mono HB2.out.size)).mono HB1.out.size)
  have hB13 : Below W1.heap.size W1 W3 := HB2.out.trans (hb3.mono HB2.out.size)
  have HG3 := Lib.hid hG3
  have HRI := Lib.hid hRI
  have HNI := Lib.hid hNI
  have HB3 := Lib.hid hB3
  have HB13 := Lib.hid hB13
  have hC2 := bof_any (.slice (some ⟨W3.heap.size, 0, none⟩) 1 1) [⟨⟨#[65]⟩, []⟩] _ (aw_empty W3) (by decide) (fun q hq => by obtain rfl := List.mem_singleton.1 hq; decide) (by decide)
  rw [aw_no] at hC2
  replace hC2 : Calls Try.prog 10 #[.slice (some ⟨W3.heap.size, 0, none⟩) 1 1] (W3.alloc (.cells #[.string ⟨#[65]⟩, .slice none 0 0] 66)) (OfNo (W3.alloc (.cells #[.string ⟨#[65]⟩, .slice none 0 0] 66))) := hC2
  unfold OfNo at hC2
  have HC2 := Lib.hid hC2
  have HCAP := Lib.hid hcap
  rw [hW3, hG]
  clear hW3 hG3 hb3 hRI hNI hB3 hB13 hC2 hG HR2 HN2 HB2 HC1 hcap
  go_upto_region 4 with (go_at_call 10; (with_reducible refine HC2.out.mono ?_); rintro e w4 ⟨rfl, hb4⟩; have HB4 := Lib.hid ((one_new W3 _).trans (hb4.mono (one_new W3 _).size)); clear hb4)
  obtain ⟨W5, hW5⟩ : ∃ W5, w4.alloc (.cells #[.slice none 0 0, .slice none 0 0] 36) = W5 := ⟨_, rfl⟩
  have hb35 : Below W3.heap.size W3 W5 := by rw [← hW5]; exact HB4.out.trans ((one_new _ _).mono HB4.out.size)
  have hG5 := HG3.out.below hb35
  have g0 := hG5.cell (o := 0) (u := .slice ra awR.length rc) rfl
  have g1 := hG5.cell (o := 1) (u := .slice na awN.length nc) rfl
  have hR5 := HRI.out.kept hb35 (Nat.le_refl _)
  have hN5 := HNI.out.kept hb35 (Nat.le_refl _)
  have hk : ∀ m, m ∈ awN → m.kids.length ≤ 1000000 ∧ ∀ k, k ∈ m.kids → 0 ≤ k ∧ k ≤ 1000000 := fun m hm => by simp [awN] at hm; rcases hm with rfl | rfl | rfl <;> decide
  have hC3 := append_any (.slice ra awR.length rc) (.slice na awN.length nc) na awR.length rc nc ra awR awN awN 2 0 W5 hR5 hN5 (by decide) (by decide) (fun r hr => by obtain rfl := List.mem_singleton.1 hr; decide) (fun m hm => (hk m hm).1) hN5 HCAP.out (by decide) hk (by decide) aw_ex aw_first (by decide)
  have hal := aw_app
  generalize awN ++ ((awN.drop 0).take (2 + 1 - 0)).map (movN ((awN.length : Int) - ((0 : Nat) : Int))) = L at hC3 hal
  unfold AppendIs at hC3
  rw [show ((2 : Nat) : Int) = 2 from rfl] at hC3
  have HC3 := Lib.hid hC3
  have HB5 := Lib.hid (HB3.out.trans (hb35.mono HB3.out.size))
  have HB15 := Lib.hid (HB13.out.trans (hb35.mono HB13.out.size))
  have HR5 := Lib.hid hR5
  have HN5 := Lib.hid hN5
  have HG5 := Lib.hid hG5
  have HAL := Lib.hid hal
  rw [hW5]
  clear hW5 hb35 hR5 hN5 hG5 hC3 hk HC2 HB4 HRI HNI HG3 hal
  go_upto_region 5 with (go_at_call 22; (with_reducible refine HC3.out.mono ?_); rintro e w6 ⟨rv6, nv6, qs6, rfl, hr6, hn6, hb6⟩; obtain ⟨ra6, rc6, rfl⟩ := own_slice' hr6; obtain ⟨na6, nc6, rfl⟩ := own_slice' hn6.2.1; rw [HAL.out]; have HB6 := Lib.hid hb6; clear hr6 hn6 hb6)
  obtain ⟨W7, hW7⟩ : ∃ W7, w6.alloc (.cells #[.slice ra6 awR.length rc6, .slice na6 6 nc6] 36) = W7 := ⟨_, rfl⟩
  obtain ⟨X, hX⟩ : ∃ X, w6.heap.size = X := ⟨_, rfl⟩
  have hX7 : Bl W7 X 36 #[.slice ra6 awR.length rc6, .slice na6 6 nc6] := by rw [← hW7, ← hX]; exact Bl.new w6 _ _
  have hb57 : Below W5.heap.size W5 W7 := by rw [← hW7]; exact HB6.out.trans ((one_new _ _).mono HB6.out.size)
  have hG7 := HG5.out.below hb57
  have k0 := hG7.cell (o := 0) (u := .slice ra awR.length rc) rfl
  have k1 := hG7.cell (o := 1) (u := .slice na awN.length nc) rfl
  have y0 := hX7.cell (o := 0) (u := .slice ra6 awR.length rc6) rfl
  have y1 := hX7.cell (o := 1) (u := .slice na6 6 nc6) rfl
  have hR7 := HR5.out.kept hb57 (Nat.le_refl _)
  have hN7 := HN5.out.kept hb57 (Nat.le_refl _)
  obtain ⟨b, off, hna, hnode⟩ : ∃ b off, na = some ⟨b, off, none⟩ ∧ W7.cell? ⟨b, off + 2 * 7, none⟩ = some (.int .i64 3) := by
    obtain ⟨-, a', c', he, h⟩ := hN7
    injection he with h1 h2 h3
    subst h1
    rcases h with h | ⟨b, off, e, h⟩
    · cases h
    · obtain ⟨kv, q0, -⟩ := h 2 _ rfl
      exact ⟨b, off, e, q0⟩
  subst hna
  have hI : ∀ W, Below W7.heap.size W7 W → Calls Try.prog 15 #[.agg #[.slice ra awR.length rc, .slice (some ⟨b, off, none⟩) awN.length nc]] W fun e w' => ∃ a c, e = .returned (.slice a awL.length c) ∧ QsAt w' (.slice a awL.length c) awL ∧ Below W.heap.size W w' := fun W hW => by
    have h := items_any _ _ awR awN W (hR7.kept hW (Nat.le_refl _)) (hN7.kept hW (Nat.le_refl _)) (by decide) (by decide) (fun r hr => by obtain rfl := List.mem_singleton.1 hr; decide) aw_ord
    rw [aw_items] at h
    exact h.mono fun e w' hh => Bck hh (by decide) (fun q hq => by obtain rfl := List.mem_singleton.1 hq; decide)
  have hBk : ∀ v W, QsAt W v awL → Calls Try.prog 17 #[v] W fun e w' => ∃ a c, e = .returned (.slice a awL.length c) ∧ QsAt w' (.slice a awL.length c) awL ∧ Below W.heap.size W w' := fun v W hv =>
    (back_any v awL W (by decide) (fun q hq => by obtain rfl := List.mem_singleton.1 hq; decide) hv).mono fun e w' hh => Bck hh (by decide) (fun q hq => by obtain rfl := List.mem_singleton.1 hq; decide)
  have hSm : ∀ u v W, QsAt W u awL → QsAt W v awL → Calls Try.prog 16 #[u, v] W fun e w' => e = .returned (.bool true) ∧ Below W.heap.size W w' := fun u v W hu hv => by
    have h := same6_any u v awL awL W (by decide) (fun q hq => by obtain rfl := List.mem_singleton.1 hq; decide) hu hv
    rw [decide_eq_true rfl] at h; exact h
  have hLt : ∀ W : World, Calls Try.prog 26 #[.slice (some ⟨W.heap.size, 0, none⟩) 2 2] (W.alloc (.cells #[.int .u8 97, .int .u8 98] 5 (2, 3))) fun e w' => ∃ a c, e = .returned (.slice a 3 c) ∧ Below (W.alloc (.cells #[.int .u8 97, .int .u8 98] 5 (2, 3))).heap.size (W.alloc (.cells #[.int .u8 97, .int .u8 98] 5 (2, 3))) w' := fun W => by
    have hnew := heap_alloc_new W (.cells #[.int .u8 97, .int .u8 98] 5 (2, 3))
    have hcl : ∀ o u, (#[.int .u8 97, .int .u8 98] : Array Value)[o]? = some u → (W.alloc (.cells #[.int .u8 97, .int .u8 98] 5 (2, 3))).cell? ⟨W.heap.size, o, none⟩ = some u := fun o u ho => by simp only [World.cell?, hnew]; exact ho
    have h := literal_any (.slice (some ⟨W.heap.size, 0, none⟩) 2 2) [97, 98] (W.alloc (.cells #[.int .u8 97, .int .u8 98] 5 (2, 3))) ⟨_, 2, rfl, .inr ⟨_, 0, rfl, fun i c hc => by
      match i, hc with
      | 0, hc => obtain rfl := Option.some.inj hc; exact hcl _ _ rfl
      | 1, hc => obtain rfl := Option.some.inj hc; exact hcl _ _ rfl
      | i + 2, hc => simp [u8s] at hc⟩⟩ (by decide) (by decide)
    refine h.mono fun e w' hh => ?_
    obtain ⟨u, rfl, ho, hb⟩ := hh
    rw [aw_lit.2] at ho
    obtain ⟨a, c, rfl⟩ := own_slice' ho
    exact ⟨a, c, rfl, hb⟩
  have kc := fun (w : World) (C : Array Value) (n c : Nat) => Lib.run_convert_bytes_const (P := Try.prog) w 57 5 C n c Try.underlying57 Try.underlying5
  have HI := Lib.hid hI
  have HBK := Lib.hid hBk
  have HSM := Lib.hid hSm
  have HLT := Lib.hid hLt
  have HB7 := Lib.hid (HB5.out.trans (hb57.mono HB5.out.size))
  have HB17 := Lib.hid (HB15.out.trans (hb57.mono HB15.out.size))
  have nl : (awN.length : Int) = 3 := rfl
  have n2 : (2 : Nat) < awN.length := by decide
  rw [hW7, hX]
  clear hW7 hX hb57 hG7 hX7 hR7 hN7 hI hBk hSm hLt g0 g1 HC3 HAL HB6 HR5 HN5 HG5
  go_wp2_with (first
    | (go_at_call 15; (with_reducible refine (HI.out _ (Below.refl _ _)).mono ?_); rintro e w8 ⟨a8, c8, rfl, hq8, hb8⟩; have HQ8 := Lib.hid hq8; have HB8 := Lib.hid hb8; clear hq8 hb8)
    | (go_at_call 17; (with_reducible refine (HBK.out _ _ HQ8.out).mono ?_); rintro e w9 ⟨a9, c9, rfl, hq9, hb9⟩; have HQ9 := Lib.hid hq9; have HB9 := Lib.hid (HB8.out.trans (hb9.mono HB8.out.size)); clear hq9 hb9)
    | (go_at_call 17; (with_reducible refine (HBK.out _ _ ((HQ1.out.kept HB17.out (Nat.le_refl _)).kept HB9.out (Nat.le_refl _))).mono ?_); rintro e w10 ⟨a10, c10, rfl, hq10, hb10⟩; have HQ10 := Lib.hid hq10; have HQ11 := Lib.hid (HQ9.out.kept hb10 (Nat.le_refl _)); have HB10 := Lib.hid (HB9.out.trans (hb10.mono HB9.out.size)); clear hq10 hb10)
    | (go_at_call 16; (with_reducible refine (HSM.out _ _ _ HQ11.out HQ10.out).mono ?_); rintro e w11 ⟨rfl, hb11⟩; have z0 := (bcell (HB10.out.trans (hb11.mono HB10.out.size))).1 X 1 (lt_of_cell y1); rw [y1] at z0; have HB11 := Lib.hid (HB10.out.trans (hb11.mono HB10.out.size)); clear hb11)
    | (go_at_call 26; (with_reducible refine (HLT.out _).mono ?_); rintro e w12 ⟨a12, c12, rfl, hb12⟩; have HB12 := Lib.hid (HB11.out.trans (((one_new _ _).trans (hb12.mono (one_new _ _).size)).mono HB11.out.size)); clear hb12))
  go_ret
  exact ⟨rfl, HB7.out.trans (HB12.out.mono HB7.out.size)⟩
end Go.Proofs.Ytnebdnonkefloaa
