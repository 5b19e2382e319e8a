/- The reference's Read at three digits. -/
import Derived.Test.YtipokoalcbaolaaDoorEscRef
namespace Go.Proofs.YtipokoalcbaolaaDoor
open Go.RowKit
set_option maxHeartbeats 2000000 in
theorem rread_three (s : ByteArray) (k : Nat) (w : World) (hs : s.size ≤ 2000000) (hk : k < s.size) (h92 : s[k].toNat = 92) (hk1 : k + 1 < s.size)
    (h256 : s[k + 1].toNat < 256) (b1 : ((s[k + 1].toNat : Int) == 110) = false) (b2 : ((s[k + 1].toNat : Int) == 114) = false) (b3 : ((s[k + 1].toNat : Int) == 116) = false)
    (hin : Hid (inB s[k + 1].toNat (bts ⟨#[39, 34, 91, 93, 92]⟩) = false)) (d3 : dg ((bts s).drop (k + 1)) 3 50 = true)
    (hn : ¬ (k : Int) < 0)
    (hy : ∀ (h2 : k + 2 < s.size) (h3 : k + 3 < s.size), rd (bts s) (k : Int) = some (64 * (s[k + 1].toNat - 48) + 8 * (s[k + 2].toNat - 48) + (s[k + 3].toNat - 48), 4)) :
    Calls Tryd.prog 26 #[.string s, .int .i64 (k : Int)] w (RReadIs (bts s) (k : Int) w) := by
  obtain ⟨z, r50, r⟩ := dg_at (by omega) d3
  have hk2 : k + 2 < s.size := by omega
  have hk3 : k + 3 < s.size := by omega
  have r0 : 48 ≤ s[k + 1].toNat ∧ s[k + 1].toNat ≤ 55 := r 0 (by omega) hk1
  have r1 : 48 ≤ s[k + 2].toNat ∧ s[k + 2].toNat ≤ 55 := r 1 (by omega) hk2
  have r2 : 48 ≤ s[k + 3].toNat ∧ s[k + 3].toNat ≤ 55 := r 2 (by omega) hk3
  have r5 := r50 hk1
  clear r r50
  have HY := Lib.hid (hy hk2 hk3)
  clear hy
  have D3 := Lib.hid d3
  clear d3
  have a1 : (48 : Int) ≤ (s[k + 1].toNat : Int) := by omega
  have a2 : (s[k + 1].toNat : Int) ≤ 50 := by omega
  have a3 : (48 : Int) ≤ (s[k + 2].toNat : Int) := by omega
  have a4 : (s[k + 2].toNat : Int) ≤ 55 := by omega
  have a5 : (48 : Int) ≤ (s[k + 3].toNat : Int) := by omega
  have a6 : (s[k + 3].toNat : Int) ≤ 55 := by omega
  go_enter Tryd.func26, Tryd.ntmps26
  go_wp2_with (first
    | (go_at_call 36; (with_reducible refine (in_false _ _ hin.out).mono ?_); rintro e w' ⟨rfl, hw⟩; obtain rfl := hw.symm; clear hw)
    | (go_at_call 37; (with_reducible refine (digits3 s k true _ hs hk1 D3.out).mono ?_); rintro e w' ⟨rfl, hw⟩; obtain rfl := hw.symm; clear hw))
  have q1 : IntKind.u8.wrap ((s[k + 1].toNat : Int) - 48) = (s[k + 1].toNat : Int) - 48 := IntWalk.u8_in _ (by omega)
  have q2 : IntKind.u8.wrap ((s[k + 2].toNat : Int) - 48) = (s[k + 2].toNat : Int) - 48 := IntWalk.u8_in _ (by omega)
  have q3 : IntKind.u8.wrap ((s[k + 3].toNat : Int) - 48) = (s[k + 3].toNat : Int) - 48 := IntWalk.u8_in _ (by omega)
  have q4 : IntKind.i64.wrap ((s[k + 1].toNat : Int) - 48) = (s[k + 1].toNat : Int) - 48 := IntWalk.i64_in _ (by omega)
  have q5 : IntKind.i64.wrap ((s[k + 2].toNat : Int) - 48) = (s[k + 2].toNat : Int) - 48 := IntWalk.i64_in _ (by omega)
  have q6 : IntKind.i64.wrap ((s[k + 3].toNat : Int) - 48) = (s[k + 3].toNat : Int) - 48 := IntWalk.i64_in _ (by omega)
  have q7 : IntKind.i64.wrap (64 * ((s[k + 1].toNat : Int) - 48)) = 64 * ((s[k + 1].toNat : Int) - 48) := IntWalk.i64_in _ (by omega)
  have q8 : IntKind.i64.wrap (8 * ((s[k + 2].toNat : Int) - 48)) = 8 * ((s[k + 2].toNat : Int) - 48) := IntWalk.i64_in _ (by omega)
  have q9 : IntKind.i64.wrap (64 * ((s[k + 1].toNat : Int) - 48) + 8 * ((s[k + 2].toNat : Int) - 48)) = 64 * ((s[k + 1].toNat : Int) - 48) + 8 * ((s[k + 2].toNat : Int) - 48) := IntWalk.i64_in _ (by omega)
  have q10 : IntKind.i64.wrap (64 * ((s[k + 1].toNat : Int) - 48) + 8 * ((s[k + 2].toNat : Int) - 48) + ((s[k + 3].toNat : Int) - 48)) = 64 * ((s[k + 1].toNat : Int) - 48) + 8 * ((s[k + 2].toNat : Int) - 48) + ((s[k + 3].toNat : Int) - 48) := IntWalk.i64_in _ (by omega)
  have p2 : IntKind.i64.wrap ((k : Int) + 2) = (k : Int) + 2 := IntWalk.i64_in _ (by omega)
  have p3 : IntKind.i64.wrap ((k : Int) + 3) = (k : Int) + 3 := IntWalk.i64_in _ (by omega)
  have p4 : IntKind.i64.wrap ((k : Int) + 4) = (k : Int) + 4 := IntWalk.i64_in _ (by omega)
  have n2 : 0 ≤ (k : Int) + 2 := by omega
  have n3 : 0 ≤ (k : Int) + 3 := by omega
  have t2 : ((k : Int) + 2).toNat = k + 2 := by omega
  have t3 : ((k : Int) + 3).toNat = k + 3 := by omega
  have m2 : (k : Int) + 2 < (s.size : Int) := by omega
  have m3 : (k : Int) + 3 < (s.size : Int) := by omega
  go_quiet (fail)
  clear q1 q2 q3 q4 q5 q6 q7 q8 q9 q10 p2 p3 p4
  go_wp2
  go_ret2
  exact RReadIs.yes HY.out ⟨nq, rfl⟩ (by omega) rfl
end Go.Proofs.YtipokoalcbaolaaDoor
