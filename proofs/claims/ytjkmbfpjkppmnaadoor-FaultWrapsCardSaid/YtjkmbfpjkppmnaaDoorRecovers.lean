/- The three deferred literals of find: where nothing has panicked, recover finds nothing, and nothing changes. -/
import Derived.Test.YtjkmbfpjkppmnaaDoorProg
import Derived.WalkKit
import Derived.Defers
import Derived.Recover
import Derived.Tactics
import Derived.Tactics2
namespace Go.Proofs.YtjkmbfpjkppmnaaDoor
theorem rec_Code (w : World) : CallsD Tryd.prog 35 #[] .returning w fun e u' w' => u' = .returning ∧ e = .returned (.tuple #[]) ∧ w' = w := by
  refine callsD_of_wpS Tryd.func35 rfl fun c₀ cs hu => ?_
  apply wpS_region
  simp [wpOpsS, go_sem, recoverD, hu, Tryd.ntmps35]
  cases c₀
  simp_all [bodyPostS, results, Tryd.results35]
theorem rec_Fault (w : World) : CallsD Tryd.prog 36 #[] .returning w fun e u' w' => u' = .returning ∧ e = .returned (.tuple #[]) ∧ w' = w := by
  refine callsD_of_wpS Tryd.func36 rfl fun c₀ cs hu => ?_
  apply wpS_region
  simp [wpOpsS, go_sem, recoverD, hu, Tryd.ntmps36]
  cases c₀
  simp_all [bodyPostS, results, Tryd.results36]
theorem rec_Within (w : World) : CallsD Tryd.prog 37 #[] .returning w fun e u' w' => u' = .returning ∧ e = .returned (.tuple #[]) ∧ w' = w := by
  refine callsD_of_wpS Tryd.func37 rfl fun c₀ cs hu => ?_
  apply wpS_region
  simp [wpOpsS, go_sem, recoverD, hu, Tryd.ntmps37]
  cases c₀
  simp_all [bodyPostS, results, Tryd.results37]
end Go.Proofs.YtjkmbfpjkppmnaaDoor
