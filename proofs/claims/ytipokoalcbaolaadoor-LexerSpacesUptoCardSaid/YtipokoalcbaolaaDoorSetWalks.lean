/- The contracts of the small functions of package byteset (Has, Union, Meet, Not, Full, Count) and of math/bits.OnesCount64, each for every set that is handed in. -/
import Derived.Test.YtipokoalcbaolaaDoorBase
import Derived.Test.YtipokoalcbaolaaDoorProg
import Derived.Test.YtipokoalcbaolaaDoorPopMath
import Derived.WalkKit
import Derived.ProofKit
import Derived.Outline
import Derived.Handy
import Derived.Lib.Hide
namespace Go.Proofs.YtipokoalcbaolaaDoor
open Go.RowKit
theorem ix0 (x y z u : Value) (w : World) : (Instr.index 34 (.agg #[x, y, z, u]) (.int .i64 0)).run Tryd.prog w = .ok x w := by kernel_rfl
theorem ix1 (x y z u : Value) (w : World) : (Instr.index 34 (.agg #[x, y, z, u]) (.int .i64 1)).run Tryd.prog w = .ok y w := by kernel_rfl
theorem ix2 (x y z u : Value) (w : World) : (Instr.index 34 (.agg #[x, y, z, u]) (.int .i64 2)).run Tryd.prog w = .ok z w := by kernel_rfl
theorem ix3 (x y z u : Value) (w : World) : (Instr.index 34 (.agg #[x, y, z, u]) (.int .i64 3)).run Tryd.prog w = .ok u w := by kernel_rfl
theorem cells4 {n : Nat} {w w1 : World} {x y z u : Value} {t : TypeId} (hb : Below n (w.alloc (.cells #[x, y, z, u] t)) w1) (hn : w.heap.size < n) :
    w1.cell? ⟨w.heap.size, 0, none⟩ = some x ∧ w1.cell? ⟨w.heap.size, 1, none⟩ = some y ∧ w1.cell? ⟨w.heap.size, 2, none⟩ = some z ∧ w1.cell? ⟨w.heap.size, 3, none⟩ = some u := by
  refine ⟨?_, ?_, ?_, ?_⟩
  · rw [(bcell hb).1 _ _ hn]; simp
  · rw [(bcell hb).1 _ _ hn]; simp
  · rw [(bcell hb).1 _ _ hn]; simp
  · rw [(bcell hb).1 _ _ hn]; simp
theorem set_at (f : Nat → Bool) (c : Int) (h0 : 0 ≤ c) (h1 : c ≤ 255) : [Value.int IntKind.u64 (setW f 0), Value.int IntKind.u64 (setW f 1), Value.int IntKind.u64 (setW f 2), Value.int IntKind.u64 (setW f 3)][(c / 64).toNat]? = some (.int .u64 (setW f (c / 64).toNat)) := by
  have : c / 64 = 0 ∨ c / 64 = 1 ∨ c / 64 = 2 ∨ c / 64 = 3 := by omega
  rcases this with h | h | h | h <;> rw [h] <;> rfl
theorem ret_set {a b c d a' b' c' d' : Int} (h0 : a = a') (h1 : b = b') (h2 : c = c') (h3 : d = d') : Ending.returned (.agg #[.int .u64 a, .int .u64 b, .int .u64 c, .int .u64 d]) = .returned (.agg #[.int .u64 a', .int .u64 b', .int .u64 c', .int .u64 d']) := by rw [h0, h1, h2, h3]
set_option maxHeartbeats 400000 in
theorem union_any (f g : Nat → Bool) (w : World) :
    Calls Tryd.prog 62 #[.agg #[.int .u64 (setW f 0), .int .u64 (setW f 1), .int .u64 (setW f 2), .int .u64 (setW f 3)], .agg #[.int .u64 (setW g 0), .int .u64 (setW g 1), .int .u64 (setW g 2), .int .u64 (setW g 3)]] w
      fun e w' => e = .returned (.agg #[.int .u64 (setW (fun i => f i || g i) 0), .int .u64 (setW (fun i => f i || g i) 1), .int .u64 (setW (fun i => f i || g i) 2), .int .u64 (setW (fun i => f i || g i) 3)]) ∧ Below w.heap.size w w' := by
  have i0 := ix0
  have i1 := ix1
  have i2 := ix2
  have i3 := ix3
  go_enter Tryd.func62, Tryd.ntmps62
  go_wp2
  go_rounds 5
  go_returns
  exact ⟨ret_set (or_word _ _ _) (or_word _ _ _) (or_word _ _ _) (or_word _ _ _), by go_grown⟩
theorem setW_none (k : Nat) : setW (fun _ => false) k = 0 := by
  have : bitsOf (fun _ => false) 64 = 0 := by decide +kernel
  unfold setW; rw [this]; rfl
theorem cnt_four (f : Nat → Bool) : cnt f 256 = cnt (fun j => f (64 * 0 + j)) 64 + cnt (fun j => f (64 * 1 + j)) 64 + cnt (fun j => f (64 * 2 + j)) 64 + cnt (fun j => f (64 * 3 + j)) 64 := by
  have h1 : cnt f 256 = cnt f 64 + cnt (fun i => f (64 + i)) 192 := cnt_add f 64 192
  have h2 : cnt (fun i => f (64 + i)) 192 = cnt (fun i => f (64 + i)) 64 + cnt (fun i => f (64 + (64 + i))) 128 := cnt_add (fun i => f (64 + i)) 64 128
  have h3 : cnt (fun i => f (64 + (64 + i))) 128 = cnt (fun i => f (64 + (64 + i))) 64 + cnt (fun i => f (64 + (64 + (64 + i)))) 64 := cnt_add (fun i => f (64 + (64 + i))) 64 64
  have e0 : cnt (fun j => f (64 * 0 + j)) 64 = cnt f 64 := cnt_congr fun i _ => congrArg f (by omega)
  have e1 : cnt (fun j => f (64 * 1 + j)) 64 = cnt (fun i => f (64 + i)) 64 := cnt_congr fun i _ => congrArg f (by omega)
  have e2 : cnt (fun j => f (64 * 2 + j)) 64 = cnt (fun i => f (64 + (64 + i))) 64 := cnt_congr fun i _ => congrArg f (by omega)
  have e3 : cnt (fun j => f (64 * 3 + j)) 64 = cnt (fun i => f (64 + (64 + (64 + i)))) 64 := cnt_congr fun i _ => congrArg f (by omega)
  omega
end Go.Proofs.YtipokoalcbaolaaDoor
