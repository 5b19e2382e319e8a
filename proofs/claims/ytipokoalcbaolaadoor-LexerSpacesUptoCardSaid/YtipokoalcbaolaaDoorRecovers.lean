/- The three deferred literals of find: where nothing has panicked, recover finds nothing, and nothing changes. -/
import Derived.Test.YtipokoalcbaolaaDoorProg
import Derived.WalkKit
import Derived.Defers
import Derived.Recover
import Derived.Tactics
import Derived.Tactics2
namespace Go.Proofs.YtipokoalcbaolaaDoor
theorem rec_Code (w : World) : CallsD Tryd.prog 40 #[] .returning w fun e u' w' => u' = .returning ∧ e = .returned (.tuple #[]) ∧ w' = w := by
  refine callsD_of_wpS Tryd.func40 rfl fun c₀ cs hu => ?_
  apply wpS_region
  simp [wpOpsS, go_sem, recoverD, hu, Tryd.ntmps40]
  cases c₀
  simp_all [bodyPostS, results, Tryd.results40]
theorem rec_Fault (w : World) : CallsD Tryd.prog 42 #[] .returning w fun e u' w' => u' = .returning ∧ e = .returned (.tuple #[]) ∧ w' = w := by
  refine callsD_of_wpS Tryd.func42 rfl fun c₀ cs hu => ?_
  apply wpS_region
  simp [wpOpsS, go_sem, recoverD, hu, Tryd.ntmps42]
  cases c₀
  simp_all [bodyPostS, results, Tryd.results42]
end Go.Proofs.YtipokoalcbaolaaDoor
