/-
  Two lists of regions that are one: contract of the function that the statements bear.
-/
import Derived.Test.YtfjppgfnjjmkpaaGdv
namespace Go.Proofs.Ytfjppgfnjjmkpaa
open Go.RowKit

end Go.Proofs.Ytfjppgfnjjmkpaa
