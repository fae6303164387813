/-
  What some regions allow more of them do: in the form in which the frame opens what came in.
-/
import Derived.Test.YtioppnlojlecaaaLawm4
import Derived.Test.YtioppnlojlecaaaGdf
namespace Go.Proofs.Ytioppnlojlecaaa
open Go.RowKit

theorem guardMore (K : GuardK) (sa sb : Option Addr) (n ca n' cb : Nat) (l m : List Rg) (p s h : Int) (hp : U32 p) (hs : U32 s) (h0 : 0 ≤ h) (h1 : h ≤ 255) (w : World) (hl : IsRegs w sa n l) (hm : IsRegs w sb n' m) :
    Calls Try.prog 6 #[.slice sa n ca, .slice sb n' cb, .int .u32 p, .int .u32 s, .int .u8 h] w fun e w' => e = .returned (.bool true) ∧ Below w.heap.size w w' := by
  obtain ⟨e1, e2, hu, b, off, hr⟩ := hl
  obtain ⟨e1', e2', hu', b', off', hr'⟩ := hm
  by_cases h20 : 20 < n ∨ 20 < n'
  · exact guardMore_many K w sa sb n n' ca cb p s h e2 e2' h20
  · exact guardMore_way K hr hr' hu hu' n n' ca cb e1 e1' (by omega) (by omega) p s h hp hs h0 h1
end Go.Proofs.Ytioppnlojlecaaa
