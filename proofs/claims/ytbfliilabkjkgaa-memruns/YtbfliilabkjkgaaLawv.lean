/-
  The document's example of memory, as the statements try it.
-/
import Derived.Test.YtbfliilabkjkgaaMemk
namespace Go.Proofs.Ytbfliilabkjkgaa
open Go.RowKit

theorem mErr (n : Int) (w : World) : Calls Try.prog 10 #[.int .i64 n] w fun e w' => e = .returned (.int .i64 n) ∧ w' = w := by
  go_enter Try.func10, Try.ntmps10
  go_wp2
  go_ret
  exact ⟨rfl, rfl⟩

/-- Words in a new block. -/
theorem row_new (w : World) (l : List Int) (t : TypeId) (i : Nat) (h : i < l.length) : (w.alloc (.cells (l.map fun x => Value.int .u32 x).toArray t)).cell? ⟨w.heap.size, 0 + i, none⟩ = some (.int .u32 (wordAt l i)) := by
  rw [Nat.zero_add]
  refine cell_new _ _ _ _ _ ?_
  simp [wordAt, List.getElem?_map, List.getElem?_eq_getElem h]

set_option maxRecDepth 100000 in
set_option maxHeartbeats 2000000 in
theorem mawake {Is : World → Addr → List Int → (Nat → Prop) → Prop} (K : MemK Is) (w : World) :
    Calls Try.prog 8 #[] w fun e w' => e = .returned (.bool true) ∧ Below w.heap.size w w' := by
  have CE : Hid _ := mErr
  have HK : Hid _ := K
  clear K
  go_enter Try.func8, Try.ntmps8
  go_wp2_with fail
  refine (HK.out.new w.heap.size 0 1 1 [258] _ rfl (by decide) (by decide) (by decide) (by intro x hx; simp at hx; subst hx; constructor <;> decide) (row_new w [258] _)).mono ?_
  rintro e w1 ⟨m, O, rfl, i1, -, hb1⟩
  have b1 := below_first hb1
  clear hb1
  go_wp2_with fail
  refine (HK.out.loads i1 1 1 false 1 0 ⟨by decide, by decide⟩ (by decide +kernel) (by decide +kernel)).mono ?_
  rintro e w2 ⟨rfl, i2, hb2⟩
  have b2 := below_step b1 hb2
  clear hb2 i1 b1
  go_wp2_with (first | (go_at_call 10; refine (CE.out _ _).mono ?_; rintro e w' ⟨rfl, rfl⟩))
  refine (HK.out.sizes i2 4 rfl).mono ?_
  rintro e w3 ⟨rfl, -, hb3⟩
  have b3 := below_step b2 hb3
  clear hb3 i2 b2
  go_wp2
  go_ret
  exact ⟨rfl, b3⟩
end Go.Proofs.Ytbfliilabkjkgaa
