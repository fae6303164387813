/-
  What the form of a name is, by the document: the contract of the function that tells it.
-/
import Derived.Test.YtpjnefnngmlpjaaRefb
import Derived.Test.YtpjnefnngmlpjaaCodep
namespace Go.Proofs.Ytpjnefnngmlpjaa
open Go.RowKit

/-- A form as a value. -/
def formC (p : MForm) : Array Value := #[.int .u8 p.k, .int .u32 p.o, .int .u32 p.g, .int .u32 p.f]
theorem form_ret {p q : MForm} (h : p = q) : Ending.returned (.agg #[.int .u8 p.k, .int .u32 p.o, .int .u32 p.g, .int .u32 p.f]) = .returned (.agg (formC q)) := by rw [h]; rfl

set_option maxRecDepth 100000 in
set_option maxHeartbeats 8000000 in
theorem rform (s : ByteArray) (w : World) :
    Calls Try.prog 70 #[.string s] w fun e w' => e = .returned (.agg (formC (formV s.toList))) ∧ w' = w.alloc (.cells (formC (formV s.toList)) 132) := by
  go_enter Try.func70, Try.ntmps70
  go_wp2
  all_goals (apply bodyPost_ret (hd := rfl); focus (simp [results, Try.results70, go_sem]; rfl))
  all_goals (simp [formV, forms, noForm, formC, List.lookup, *])

theorem rform' (s : ByteArray) (k o g f : Int) (hp : formV s.toList = ⟨k, o, g, f⟩) (w : World) :
    Calls Try.prog 70 #[.string s] w fun e w' => e = .returned (.agg #[.int .u8 k, .int .u32 o, .int .u32 g, .int .u32 f]) ∧ w' = w.alloc (.cells #[.int .u8 k, .int .u32 o, .int .u32 g, .int .u32 f] 132) := by
  have h := rform s w
  rw [hp] at h
  exact h
end Go.Proofs.Ytpjnefnngmlpjaa
