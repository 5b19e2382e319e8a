/- The three deferred literals of find: where nothing has panicked, recover finds nothing, and nothing changes. -/
import Derived.Test.YtbhejkjgebhpoaaDoorProg
import Derived.WalkKit
import Derived.Defers
import Derived.Recover
import Derived.Tactics
import Derived.Tactics2
namespace Go.Proofs.YtbhejkjgebhpoaaDoor
theorem rec_Code (w : World) : CallsD Tryd.prog 44 #[] .returning w fun e u' w' => u' = .returning ∧ e = .returned (.tuple #[]) ∧ w' = w := by
  refine callsD_of_wpS Tryd.func44 rfl fun c₀ cs hu => ?_
  apply wpS_region
  simp [wpOpsS, go_sem, recoverD, hu, Tryd.ntmps44]
  cases c₀
  simp_all [bodyPostS, results, Tryd.results44]
theorem rec_Fault (w : World) : CallsD Tryd.prog 47 #[] .returning w fun e u' w' => u' = .returning ∧ e = .returned (.tuple #[]) ∧ w' = w := by
  refine callsD_of_wpS Tryd.func47 rfl fun c₀ cs hu => ?_
  apply wpS_region
  simp [wpOpsS, go_sem, recoverD, hu, Tryd.ntmps47]
  cases c₀
  simp_all [bodyPostS, results, Tryd.results47]
theorem rec_Within (w : World) : CallsD Tryd.prog 46 #[] .returning w fun e u' w' => u' = .returning ∧ e = .returned (.tuple #[]) ∧ w' = w := by
  refine callsD_of_wpS Tryd.func46 rfl fun c₀ cs hu => ?_
  apply wpS_region
  simp [wpOpsS, go_sem, recoverD, hu, Tryd.ntmps46]
  cases c₀
  simp_all [bodyPostS, results, Tryd.results46]
end Go.Proofs.YtbhejkjgebhpoaaDoor
