/- The walk of errors.as where the target is a variable of the type of kind Within: whatever error stands before it, however often it is wrapped. -/
import Derived.Test.YtipokoalcbaolaaDoorErrUnwrap
namespace Go.Proofs.YtipokoalcbaolaaDoor
open Go.RowKit Go.Extern.Stop Go.Stop Go.Extern
end Go.Proofs.YtipokoalcbaolaaDoor
