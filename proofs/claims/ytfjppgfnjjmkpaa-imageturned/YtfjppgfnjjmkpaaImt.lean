/-
  footmanref6: meet.
-/
import Derived.Test.YtfjppgfnjjmkpaaIms
namespace Go.Proofs.Ytfjppgfnjjmkpaa
open Go.RowKit

theorem rMeet (s r : Rg) (w : World) : Calls Try.prog 24 #[rgV s, rgV r] w fun e w' => e = .returned (.bool (meetB s r)) ∧ Below w.heap.size w w' := by
  have HBh : Hid (Below w.heap.size w ((w.alloc (.cells #[.int .u32 s.lo, .int .u32 s.hi, .bool s.x, .bool s.w] 25)).alloc (.cells #[.int .u32 r.lo, .int .u32 r.hi, .bool r.x, .bool r.w] 25))) := box2
  unfold rgV meetB
  by_cases c1 : s.lo < s.hi
  · have d1 : decide (s.lo < s.hi) = true := decide_eq_true c1
    by_cases c2 : r.lo < r.hi
    · have d2 : decide (r.lo < r.hi) = true := decide_eq_true c2
      by_cases c3 : s.lo < r.hi
      · have d3 : decide (s.lo < r.hi) = true := decide_eq_true c3
        go_enter Try.func24, Try.ntmps24
        go_wp2
        go_ret
        exact ⟨by first | rfl | (rw [d1, d2, d3]; rfl), HBh.out⟩
      · have d3 : decide (s.lo < r.hi) = false := decide_eq_false c3
        go_enter Try.func24, Try.ntmps24
        go_wp2
        go_ret
        exact ⟨by first | rfl | (rw [d1, d2, d3]; rfl), HBh.out⟩
    · have d2 : decide (r.lo < r.hi) = false := decide_eq_false c2
      go_enter Try.func24, Try.ntmps24
      go_wp2
      go_ret
      exact ⟨by first | rfl | (rw [d1, d2]; rfl), HBh.out⟩
  · have d1 : decide (s.lo < s.hi) = false := decide_eq_false c1
    go_enter Try.func24, Try.ntmps24
    go_wp2
    go_ret
    exact ⟨by first | rfl | (rw [d1]; rfl), HBh.out⟩
end Go.Proofs.Ytfjppgfnjjmkpaa
