/- strconv.Itoa of 1, walked through the library's text. -/
import Derived.Test.YtjkmbfpjkppmnaaDoorProg
import Derived.WalkKit
import Derived.ProofKit
import Derived.Outline
import Derived.Handy
import Derived.Lib.Hide
namespace Go.Proofs.YtjkmbfpjkppmnaaDoor
open Go.RowKit
theorem itoa_one (w : World) : Calls Tryd.prog 58 #[.int .i64 1] w fun ev w' => ev = .returned (.string ⟨#[49]⟩) ∧ w' = w := by
  go_enter Tryd.func58, Tryd.ntmps58
  go_wp2
  go_ret
  exact ⟨by kernel_rfl, rfl⟩
end Go.Proofs.YtjkmbfpjkppmnaaDoor
