/-
  Package asm: starts, none of the branches far; spans and findFar where there is no branch.
-/
import Derived.Test.YtpjnefnngmlpjaaAse
import Derived.Deep.OwnRows
namespace Go.Proofs.Ytpjnefnngmlpjaa
open Go.RowKit

theorem makeI (n : Nat) (h : n ≤ 1000000) (w : World) : (Instr.makeSlice 48 (.int .i64 (n : Int)) (.int .i64 (n : Int))).run Try.prog w = .ok (.slice (some ⟨w.heap.size, 0, none⟩) n n) (w.alloc (.cells (madeCells #[.int .i64 0] n) 3)) :=
  run_make_row' (P := Try.prog) 48 3 (.int .i64 0) 8 Try.underlying48 (by kernel_rfl) rfl .i64 .i64 n (by omega) (by omega) w
def intsF (n : Nat) (f : Nat → Int) : Array Value := ((List.range n).map fun i => Value.int .i64 (f i)).toArray
theorem intsF_size (n : Nat) (f : Nat → Int) : (intsF n f).size = n := by simp [intsF]
theorem intsF_at (n : Nat) (f : Nat → Int) (i : Nat) (h : i < n) : (intsF n f)[i]? = some (.int .i64 (f i)) := by simp [intsF, h]
theorem intsF_ext {n : Nat} {f g : Nat → Int} (h : ∀ i, i < n → f i = g i) : intsF n f = intsF n g := by
  unfold intsF
  congr 1
  apply List.map_congr_left
  intro i hi
  rw [h i (List.mem_range.1 hi)]
theorem intsF_put (n : Nat) (f : Nat → Int) (i : Nat) (x : Int) : (intsF n f).setIfInBounds i (.int .i64 x) = intsF n (fun j => if j = i then x else f j) := by
  apply Array.ext_getElem?
  intro j
  rw [Array.getElem?_setIfInBounds, intsF_size]
  by_cases hj : j < n
  · rw [intsF_at n _ j hj, intsF_at n _ j hj]
    by_cases hij : i = j
    · subst hij
      rw [if_pos rfl, if_pos hj]
      simp
    · rw [if_neg hij]
      simp [show ¬ j = i from fun e => hij e.symm]
  · have e1 : (intsF n f)[j]? = none := Array.getElem?_eq_none (by rw [intsF_size]; omega)
    have e2 : (intsF n (fun j => if j = i then x else f j))[j]? = none := Array.getElem?_eq_none (by rw [intsF_size]; omega)
    rw [e1, e2]
    by_cases hij : i = j
    · subst hij
      rw [if_pos rfl, if_neg hj]
    · rw [if_neg hij]
theorem intsF_made (n : Nat) : madeCells #[.int .i64 0] n = intsF n (fun _ => 0) := by
  apply Array.ext_getElem?
  intro j
  by_cases hj : j < n
  · rw [intsF_at n _ j hj, ← Array.getElem?_toList, toList_madeCells_one]
    simp [hj]
  · rw [Array.getElem?_eq_none (by rw [size_madeCells]; omega), Array.getElem?_eq_none (by rw [intsF_size]; omega)]
set_option maxRecDepth 100000 in
set_option maxHeartbeats 2000000 in
theorem aStarts {w : World} {pb b off : Nat} {sa : Option Addr} {cap g gf : Nat} {base : Int} {xs : List It} (h : ProgAt w pb b off sa cap g gf base xs) (hl : xs.length ≤ 1000000) (ho : ∀ x ∈ xs, ItOk x) :
    Calls Try.prog 54 #[.pointer (some ⟨pb, 0, none⟩)] w fun e w' => ∃ gb, e = .returned (.slice (some ⟨gb, 0, none⟩) xs.length xs.length) ∧ w'.heap[gb]? = some (.cells (intsF xs.length (sumV xs)) 3) ∧ Below w.heap.size w w' ∧ w.heap.size ≤ gb := by
  have HP : Hid _ := h
  have HO : Hid _ := ho
  have HSB : Hid _ := sumV_bd ho
  have c1 := h.slice
  have hmk := makeI xs.length hl
  rw [intsF_made] at hmk
  have CZ : Hid _ := fun (w' : World) (hw : Below w.heap.size w w') (k : Nat) (x : It) (hx : xs[k]? = some x) => aSize (h.below hw) hl k x hx (ho x (List.mem_of_getElem? hx))
  have B0 : Hid (Below w.heap.size w (w.alloc (.cells (intsF xs.length (fun _ => 0)) 3))) := (Below.refl _ _).alloc (Nat.le_refl _) _
  have R0 : Hid ((w.alloc (.cells (intsF xs.length (fun _ => 0)) 3)).heap[w.heap.size]? = some (.cells (intsF xs.length (fun i => if i < 0 then sumV xs i else 0)) 3)) := by
    rw [intsF_ext (g := fun _ => 0) (fun i _ => if_neg (Nat.not_lt_zero i))]
    exact alloc_at w _
  have c2 := (h.below B0.out).slice
  have ci : (w.alloc (.cells (intsF xs.length (fun _ => 0)) 3)).heap.size = w.heap.size + 1 := World.size_alloc _ _
  clear h ho ci
  generalize hln : xs.length = n at *
  have HLN : Hid (xs.length = n) := hln
  clear hln
  go_enter Try.func54, Try.ntmps54
  go_wp2_with fail
  go_loopw [4, 17] (fun s i wr => ∃ (k : Nat) (V : World), V = wr ∧ k ≤ n ∧ i = .int .i64 k ∧ s = .int .i64 (sumV xs k) ∧ Hid (V.heap[w.heap.size]? = some (.cells (intsF n (fun i => if i < k then sumV xs i else 0)) 3) ∧ Below w.heap.size w V)) (fun _ i _ => n - (intOf i).toNat)
  case atStart => exact ⟨0, _, rfl, Nat.zero_le _, rfl, rfl, R0.out, B0.out⟩
  case round =>
    clear R0 B0 c2
    obtain ⟨k, V, rfl, hk, rfl, rfl, hr⟩ := hrel
    have hs := HSB.out k
    by_cases hlt : k < n
    · obtain ⟨x, hx⟩ : ∃ x, xs[k]? = some x := ⟨_, List.getElem?_eq_getElem (by rw [HLN.out]; exact hlt)⟩
      have HX : Hid _ := hx
      have hz := sizeV_le (HO.out x (List.mem_of_getElem? hx))
      have E1 : Hid _ := sumV_next hx
      obtain ⟨y, hy⟩ : ∃ y, y = sumV xs k := ⟨_, rfl⟩
      obtain ⟨z, hz2⟩ : ∃ z, z = sizeV x := ⟨_, rfl⟩
      rw [← hy] at hs
      rw [← hz2] at hz
      rw [← hy]
      have HY : Hid _ := hy
      have HZ2 : Hid _ := hz2
      have v1 : wrap64 (y + z) = y + z := wrap64_id (by omega) (by omega)
      have k0 : (0 : Int) ≤ (k : Int) := by omega
      have k1 : (k : Int) < (n : Int) := by omega
      obtain ⟨ic, ifr, _⟩ := cells_of hr.out.1
      have d0 : V.cell? ⟨w.heap.size, k, none⟩ = some (.int .i64 0) := ic k _ (by rw [intsF_at n _ k hlt, if_neg (Nat.lt_irrefl k)])
      have d1 := ifr k
      clear ic ifr hx hy hz2 c1
      go_wp2_with fail
      have R1 := heap_setCell_at (i := k) (.int .i64 y) hr.out.1
      have B1 : Below w.heap.size w (V.setCell ⟨w.heap.size, k, none⟩ (.int .i64 y)) := hr.out.2.setCell (Nat.le_refl _) _
      have CX := CZ.out _ B1 k x HX.out
      rw [← HZ2.out] at CX
      have R1h : Hid _ := R1
      have B1h : Hid _ := B1
      clear R1 B1 d0 d1 CZ hr
      generalize V.setCell ⟨w.heap.size, k, none⟩ (.int .i64 y) = V1 at *
      refine Calls.mono CX ?_
      rintro e w2 ⟨rfl, b2⟩
      have R2 : Hid _ := kept_on R1h.out b2
      have B2 : Hid _ := below_step B1h.out b2
      clear b2 R1h B1h CX
      go_wp2_with fail
      refine ⟨⟨k + 1, _, rfl, hlt, by go_num, by rw [E1.out, ← HY.out, ← HZ2.out], ?_, B2.out⟩, by simp [intOf]; omega⟩
      have r := R2.out
      rw [intsF_put] at r
      rw [r]
      congr 2
      apply intsF_ext
      intro i _
      by_cases hik : i = k
      · subst hik
        rw [if_pos rfl, if_pos (Nat.lt_succ_self _), HY.out]
      · rw [if_neg hik]
        by_cases hi2 : i < k
        · rw [if_pos hi2, if_pos (by omega)]
        · rw [if_neg hi2, if_neg (by omega)]
    · have hkn : k = n := by omega
      subst hkn
      generalize sumV xs k = y at *
      go_wp2_with fail
      go_ret
      refine ⟨_, rfl, ?_, hr.out.2, Nat.le_refl _⟩
      rw [hr.out.1]
      congr 2
      exact intsF_ext fun i hi => if_pos hi
end Go.Proofs.Ytpjnefnngmlpjaa
