/- The contract of the reference's Runs: the runs of the set, as pairs of bytes. -/
import Derived.Test.YtcfjclcbfhajcaaRefBytes
import Derived.Test.YtcfjclcbfhajcaaRunMath
import Derived.WalkSmall
namespace Go.Proofs.Ytcfjclcbfhajcaa
open Go.RowKit Go.Shelf
theorem Try.infoRun : (Try.prog.info? 32).map (fun i => (i.zero, i.size, i.bytes)) = some (some (.agg #[.int .u8 0, .int .u8 0]), 2, 2) := by kernel_rfl
set_option maxHeartbeats 1000000 in
set_option maxRecDepth 100000 in
theorem rruns_any (f : Nat → Bool) (w : World) :
    Calls Try.prog 15 #[.agg #[.int .u64 (setW f 0), .int .u64 (setW f 1), .int .u64 (setW f 2), .int .u64 (setW f 3)]] w fun e W' =>
      ∃ v, e = .returned v ∧ W'.ownsRow w.heap.size 32 2 v (runsTo f 256).length (runCells (runsTo f 256)) ∧ Below w.heap.size w W' := by
  obtain ⟨i0, hi0, hz0, hz1, hz2⟩ := info_parts Try.infoRun
  go_enter Try.func15, Try.ntmps15
  go_wp2
  obtain ⟨S, hSv⟩ : ∃ S : Obj, S = .cells #[.int .u64 (setW f 0), .int .u64 (setW f 1), .int .u64 (setW f 2), .int .u64 (setW f 3)] 24 := ⟨_, rfl⟩
  have hS0 : SetAt f w.heap.size (w.alloc S) := by rw [hSv]; exact SetAt.new rfl rfl rfl rfl rfl
  simp only [← hSv]
  clear hSv
  go_loopw [3, 4] (fun v c wr => ∃ k : Nat, k ≤ 257 ∧ c = .int .i64 k ∧ (k = 0 ∨ f (k - 1) = false ∨ k = 257) ∧ wr.ownsRow (w.heap.size + 1) 32 2 v (runsTo f (min k 256)).length (runCells (runsTo f (min k 256))) ∧ Below (w.heap.size + 1) (w.alloc S) wr) (fun _ c _ => (257 - (intOf c).toNat))
  case atStart =>
    exact ⟨0, Nat.zero_le _, rfl, .inl rfl, World.ownsRow_nil _ _ _ _, Below.refl _ _⟩
  case round =>
    obtain ⟨k, hk, rfl, hk0, hs, hb⟩ := hrel
    have hz := hb.size
    rw [World.size_alloc] at hz
    have hrl := runs_len f k
    by_cases hlt : k < 256
    · rw [Nat.min_eq_left (by omega)] at hs
      have hk0' : k = 0 ∨ f (k - 1) = false := hk0.elim .inl fun h => h.elim .inr fun h => absurd h (by omega)
      have HK := Lib.hid hk0'
      have hdk256 : decide ((k : Int) < 256) = true := decide_eq_true (by omega)
      clear hk0 hk0'
      go_wp2
      obtain ⟨wo, rfl⟩ : ∃ wo : World, wo = wr := ⟨_, rfl⟩
      go_loopw [5] (fun c wr => ∃ d : Nat, k ≤ d ∧ d ≤ 256 ∧ c = .int .i64 d ∧ Hid (∀ i, k ≤ i → i < d → f i = true) ∧ wr.ownsRow (w.heap.size + 1) 32 2 u3 (runsTo f k).length (runCells (runsTo f k)) ∧ Below (w.heap.size + 1) (w.alloc S) wr) (fun c _ => (257 - (intOf c).toNat))
      case atStart => exact ⟨k, Nat.le_refl _, by omega, rfl, Lib.hid (fun i _ _ => by omega), hs, hb⟩
      case round =>
        obtain ⟨d, hd1, hd2, rfl, HD, hs, hb⟩ := hrel
        have hz := hb.size
        rw [World.size_alloc] at hz
        obtain ⟨⟨c0, c1, c2, c3⟩, -⟩ := (hS0.below hb (Nat.lt_succ_self _)).four
        by_cases hlt2 : d < 256
        · cases hfd : f d
          · have HF := Lib.hid hfd
            clear hfd
            by_cases hdk : k < d
            · go_wp2_with (first | (go_at_call 10; refine (rhas_nat f d false HF.out _ hlt2).mono ?_; rintro e w1 ⟨rfl, hb1⟩; have hs1 := ownsRow_grown hs hb1; have hsz1 := hb1.size) | (at_builtin; go_loud (refine wpList_append_own _ rfl _ _ 30 rfl (w.heap.size + 1) 32 i0 (.agg #[.int .u8 0, .int .u8 0]) 2 2 Try.underlying30 hi0 hz0 hz1 hz2 rfl (by decide) _ _ _ rfl (hs1.alloc _) ⟨w1.heap.size, 0, none⟩ 1 1 [.int .u8 (k : Int), .int .u8 ((d : Int) - 1)] rfl rfl (cell_two_new _ _ _ _) (by simp [Value.oneCell']) (by unfold maxLen; omega) (by omega) (by simp; omega) ?_); intro v' w2 hown' hgrow _))
              have hb2 := ((hb.trans (hb1.mono (by omega))).alloc (by omega) (.cells #[_, _] 32)).grown hgrow (by simp; omega) (fun k e => (hs1.lt k e).1)
              have hre := runs_end f k d HK.out hdk hd2 HD.out
              have hl : (runsTo f d).length = (runsTo f k).length + 1 := by rw [hre]; simp
              rw [show ((d : Int) - 1) = ((d - 1 : Nat) : Int) from by omega, ← runCells_snoc, ← hre, ← hl] at hown'
              exact ⟨⟨d + 1, by omega, by go_num, .inr (.inl HF.out), by rw [Nat.min_eq_left (by omega), runs_skip f d HF.out]; exact hown', hb2⟩, by simp [intOf]; omega⟩
            · obtain rfl : k = d := by omega
              go_wp2_with (go_at_call 10; refine (rhas_nat f k false HF.out _ hlt2).mono ?_; rintro e w1 ⟨rfl, hb1⟩)
              have hs1 := ownsRow_grown hs hb1
              exact ⟨⟨k + 1, by omega, by go_num, .inr (.inl HF.out), by rw [Nat.min_eq_left (by omega), runs_skip f k HF.out]; exact hs1, hb.trans (hb1.mono (by omega))⟩, by simp [intOf]; omega⟩
          · have HF := Lib.hid hfd
            clear hfd
            go_wp2_with (go_at_call 10; refine (rhas_nat f d true HF.out _ hlt2).mono ?_; rintro e w1 ⟨rfl, hb1⟩)
            have hs1 := ownsRow_grown hs hb1
            go_roundw
            case rel => exact ⟨d + 1, by omega, by omega, by go_num, Lib.hid (fun i h1 h2 => if h : i = d then by rw [h]; exact HF.out else HD.out i h1 (by omega)), hs1, hb.trans (hb1.mono (by omega))⟩
            case measure => simp [intOf]; omega
        · obtain rfl : d = 256 := by omega
          go_wp2_with (at_builtin; refine wpList_append_own _ rfl _ _ 30 rfl (w.heap.size + 1) 32 i0 (.agg #[.int .u8 0, .int .u8 0]) 2 2 Try.underlying30 hi0 hz0 hz1 hz2 rfl (by decide) _ _ _ rfl (hs.alloc _) ⟨wr.heap.size, 0, none⟩ 1 1 [.int .u8 (k : Int), .int .u8 255] rfl rfl (cell_two_new _ _ _ _) (by simp [Value.oneCell']) (by unfold maxLen; omega) (by omega) (by simp; omega) ?_; intro v' w2 hown' hgrow _)
          have hb2 := (hb.alloc (by omega) (.cells #[_, _] 32)).grown hgrow (by simp; omega) (fun k e => (hs.lt k e).1)
          have hre := runs_end f k 256 HK.out hlt (Nat.le_refl _) HD.out
          have hl : (runsTo f 256).length = (runsTo f k).length + 1 := by rw [hre]; simp
          rw [show (255 : Int) = ((256 - 1 : Nat) : Int) from rfl, ← runCells_snoc, ← hre, ← hl] at hown'
          exact ⟨⟨257, by omega, rfl, .inr (.inr rfl), hown', hb2⟩, by simp [intOf]; omega⟩
    · have e : min k 256 = 256 := by omega
      rw [e] at hs
      clear hS0 hk0
      go_wp2
      go_ret
      exact ⟨_, rfl, ownsRow_base hs (by omega), ((Below.refl _ w).alloc (Nat.le_refl _) S).trans (hb.mono (by omega))⟩
end Go.Proofs.Ytcfjclcbfhajcaa
