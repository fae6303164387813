/-
  ImageTurned: the document's Check in a region that draws its order.
-/
import Derived.Test.YtfjppgfnjjmkpaaRck
import Derived.Test.YtfjppgfnjjmkpaaImta
namespace Go.Proofs.Ytfjppgfnjjmkpaa
open Go.RowKit Go.Sort

theorem trcheckIn {V : World} {J : Im} {b off : Nat} (hp : PartsAt V b off J.pa J.ps) (ho : ImOk J) (hl : J.ps.length ≤ 100) (d : Nat) (os : Array Obj) :
    Calls Try.prog 12 #[.agg J.cells] (grow (redrawn V d) os) fun e w'' => e = .returned (.int .i64 (checkV J)) ∧ ∃ p : Regrown, w'' = grow (redrawn V p.d) p.os :=
  Calls.regrown_of (rCheck (hp.below (below_regrown V d os)) ho hl)
end Go.Proofs.Ytfjppgfnjjmkpaa
