/-
  What the statements on regions need of package guard; the document's example by it. (The program's own text comes in by an instance; nothing here looks into it.)
-/
import Derived.Test.YtioppnlojlecaaaGda
import Derived.Test.YtioppnlojlecaaaGdp
import Derived.Test.YtioppnlojlecaaaGds
import Derived.Test.YtioppnlojlecaaaGdo
namespace Go.Proofs.Ytioppnlojlecaaa
open Go.RowKit

structure GuardK : Prop where
  of : ∀ (ws : Nat → Int), (∀ i, U32 (ws i)) → ∀ w : World, Calls Try.prog 11 #[.agg (row16 ws)] w fun e w' => ∃ g off cap, e = .returned (.slice (some ⟨g, off, none⟩) 8 cap) ∧ w.heap.size ≤ g ∧ g < w'.heap.size ∧ 8 ≤ cap ∧ Regs w' (some ⟨g, off, none⟩) g off (ofV ws) ∧ Below w.heap.size w w'
  put : ∀ {w : World} {sa : Option Addr} {b off : Nat} {l : List Rg}, Regs w sa b off l → (∀ r ∈ l, RgU r) → ∀ n cap, n = l.length → n ≤ 1000000000 → Calls Try.prog 8 #[.slice sa n cap] w fun e w' => e = .returned (.tuple #[.agg (row16 (putW l)), .int .i64 (putE l)]) ∧ Below w.heap.size w w'
  allow : ∀ {w : World} {sa : Option Addr} {b off : Nat} {l : List Rg}, Regs w sa b off l → (∀ r ∈ l, RgU r) → ∀ n cap, n = l.length → n ≤ 1000000000 → ∀ p s h : Int, U32 p → U32 s → Calls Try.prog 15 #[.slice sa n cap, .int .u32 p, .int .u32 s, .int .i64 h] w fun e w' => e = .returned (.bool (allowV l p s h)) ∧ Below w.heap.size w w'

theorem regs_nil (w : World) : Regs w none 0 0 [] := ⟨fun h => absurd h (Nat.lt_irrefl _), fun h => absurd h (Nat.lt_irrefl _), fun _ hi => absurd hi (Nat.not_lt_zero _)⟩
/-- Regions in a new block. -/
theorem regs_new (w : World) (l : List Rg) (t : TypeId) : Regs (w.alloc (.cells (rrow l).toArray t)) (some ⟨w.heap.size, 0, none⟩) w.heap.size 0 l :=
  ⟨fun _ => rfl, fun _ => by simp, fun i hi f v hv => by
    have hf : f < 4 := by
      have := (List.getElem?_eq_some_iff.1 hv).1
      simpa [rcells_len] using this
    rw [show 0 + i * 4 + f = i * 4 + f by omega]
    exact cell_new _ _ _ _ _ (by rw [rrow_at l i f hi hf]; exact hv)⟩
theorem regs_block {w : World} {b : Nat} {l : List Rg} {t : TypeId} (h : w.heap[b]? = some (.cells (rrow l).toArray t)) : Regs w (some ⟨b, 0, none⟩) b 0 l := by
  obtain ⟨cc, _, cs⟩ := cells_of h
  refine ⟨fun _ => rfl, fun _ => cs, fun i hi f v hv => ?_⟩
  have hf : f < 4 := by
    have := (List.getElem?_eq_some_iff.1 hv).1
    simpa [rcells_len] using this
  rw [show 0 + i * 4 + f = i * 4 + f by omega]
  exact cc _ _ (by rw [List.getElem?_toArray, rrow_at l i f hi hf]; exact hv)
theorem alloc4 (w : World) (A B C D : Obj) : ((((w.alloc A).alloc B).alloc C).alloc D).heap[w.heap.size + 1 + 1]? = some C ∧ ((((w.alloc A).alloc B).alloc C).alloc D).heap[w.heap.size + 1 + 1 + 1]? = some D ∧ Below w.heap.size w ((((w.alloc A).alloc B).alloc C).alloc D) := by
  have hC := alloc_at ((w.alloc A).alloc B) C
  have hD := alloc_at (((w.alloc A).alloc B).alloc C) D
  rw [World.size_alloc, World.size_alloc] at hC
  rw [World.size_alloc, World.size_alloc, World.size_alloc] at hD
  exact ⟨kept_on hC ((Below.refl _ _).alloc (Nat.le_refl _) _), hD, (box2.alloc (by simp; omega) _).alloc (by simp; omega) _⟩
theorem rgU_one {r : Rg} (h : RgU r) : ∀ q ∈ [r], RgU q := by
  intro q hq
  simp only [List.mem_cons, List.not_mem_nil, or_false] at hq
  rw [hq]; exact h
theorem rgU_two {r s : Rg} (h : RgU r) (h' : RgU s) : ∀ q ∈ [r, s], RgU q := by
  intro q hq
  simp only [List.mem_cons, List.not_mem_nil, or_false] at hq
  rcases hq with rfl | rfl
  · exact h
  · exact h'

set_option maxRecDepth 100000 in
set_option maxHeartbeats 2000000 in
theorem gawake (K : GuardK) (w : World) :
    Calls Try.prog 7 #[] w fun e w' => e = .returned (.bool true) ∧ Below w.heap.size w w' := by
  have HK : Hid _ := K
  clear K
  go_enter Try.func7, Try.ntmps7
  go_wp2_with fail
  refine (HK.out.allow (regs_nil w) (fun r hr => by cases hr) 0 0 rfl (by decide) 0 1 0 ⟨by decide, by decide⟩ ⟨by decide, by decide⟩).mono ?_
  rintro e w1 ⟨rfl, b1⟩
  rw [show allowV [] 0 1 0 = false by decide]
  go_wp2_with fail
  refine (HK.out.allow (regs_new w1 [⟨0, 8, false, false⟩] _) (rgU_one ⟨⟨by decide, by decide⟩, ⟨by decide, by decide⟩⟩) 1 1 rfl (by decide) 4 4 0 ⟨by decide, by decide⟩ ⟨by decide, by decide⟩).mono ?_
  rintro e w2 ⟨rfl, hb2⟩
  rw [show allowV [⟨0, 8, false, false⟩] 4 4 0 = true by decide]
  have b2 := below_step b1 (below_first hb2)
  clear hb2 b1
  go_wp2_with fail
  refine (HK.out.of (fun _ => 0) (fun _ => ⟨by decide, by decide⟩) w2).mono ?_
  rintro e w3 ⟨g, off, cap, rfl, -, -, -, -, hb3⟩
  have b3 := below_step b2 hb3
  clear hb3 b2
  go_wp2
  go_ret
  exact ⟨rfl, b3⟩
end Go.Proofs.Ytioppnlojlecaaa
