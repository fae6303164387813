/-
  Package guard is what the statements need.
-/
import Derived.Test.YtioppnlojlecaaaGdne
namespace Go.Proofs.Ytioppnlojlecaaa
open Go.RowKit

theorem gPut {w : World} {sa : Option Addr} {b off : Nat} {l : List Rg} (hr : Regs w sa b off l) (hu : ∀ r ∈ l, RgU r) (n cap : Nat) (hn : n = l.length) (hm : n ≤ 1000000000) :
    Calls Try.prog 8 #[.slice sa n cap] w fun e w' => e = .returned (.tuple #[.agg (row16 (putW l)), .int .i64 (putE l)]) ∧ Below w.heap.size w w' := by
  by_cases h8 : n ≤ 8
  · exact gPut_few hr hu n cap hn h8
  · have e : putE l = 9 := by unfold putE; rw [if_pos (by omega)]
    rw [e, row16_ext (f := putW l) (g := fun _ => 0) (fun i _ => by unfold putW; rw [e, if_neg (by decide)])]
    exact gPut_many sa n cap (by omega) hm
theorem guardK : GuardK := ⟨gOf, fun hr hu n cap hn hm => gPut hr hu n cap hn hm, fun hr hu n cap hn hm p s h hp hs => gAllow hr hu n cap hn hm p s h hp hs⟩
end Go.Proofs.Ytioppnlojlecaaa
