/-
  What the form of a name is, by the document: the contract of the function that tells it.
-/
import Derived.Test.YtbdfaepljgajbaaRefb
import Derived.Test.YtbdfaepljgajbaaCodep
namespace Go.Proofs.Ytbdfaepljgajbaa
open Go.RowKit

/-- A form as a value. -/
def formC (p : MForm) : Array Value := #[.int .u8 p.k, .int .u32 p.o, .int .u32 p.g, .int .u32 p.f]
theorem form_ret {p q : MForm} (h : p = q) : Ending.returned (.agg #[.int .u8 p.k, .int .u32 p.o, .int .u32 p.g, .int .u32 p.f]) = .returned (.agg (formC q)) := by rw [h]; rfl

set_option maxRecDepth 100000 in
set_option maxHeartbeats 8000000 in
theorem rform (s : ByteArray) (w : World) :
    Calls Try.prog 22 #[.string s] w fun e w' => e = .returned (.agg (formC (formV s.toList))) ∧ w' = w.alloc (.cells (formC (formV s.toList)) 59) := by
  go_enter Try.func22, Try.ntmps22
  go_wp2
  all_goals (apply bodyPost_ret (hd := rfl); focus (simp [results, Try.results22, go_sem]; rfl))
  all_goals (simp [formV, forms, noForm, formC, List.lookup, *])

theorem rform' (s : ByteArray) (k o g f : Int) (hp : formV s.toList = ⟨k, o, g, f⟩) (w : World) :
    Calls Try.prog 22 #[.string s] w fun e w' => e = .returned (.agg #[.int .u8 k, .int .u32 o, .int .u32 g, .int .u32 f]) ∧ w' = w.alloc (.cells #[.int .u8 k, .int .u32 o, .int .u32 g, .int .u32 f] 59) := by
  have h := rform s w
  rw [hp] at h
  exact h
end Go.Proofs.Ytbdfaepljgajbaa
