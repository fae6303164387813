/-
  The regions of words, by the document: contract of the function that the statements bear.
-/
import Derived.Test.YtioppnlojlecaaaGdw
import Derived.Laws.OwnMore
import Derived.OwnWalk
import Derived.Deep.RegionHeld3
import Derived.Deep.AppendLies
namespace Go.Proofs.Ytioppnlojlecaaa
open Go.RowKit

/-- The cells of regions, behind one another. -/
def rrow (l : List Rg) : List Value := l.flatMap rcells
theorem rcells_len (r : Rg) : (rcells r).length = 4 := rfl
theorem rrow_len (l : List Rg) : (rrow l).length = l.length * 4 := by
  unfold rrow
  induction l with
  | nil => rfl
  | cons r l ih => rw [List.flatMap_cons, List.length_append, ih, rcells_len, List.length_cons]; omega
theorem rrow_at (l : List Rg) : ∀ (i f : Nat), i < l.length → f < 4 → (rrow l)[i * 4 + f]? = (rcells (rgAt l i))[f]? := by
  induction l with
  | nil => intro i f h; cases h
  | cons r l ih =>
    intro i f hi hf
    unfold rrow
    rw [List.flatMap_cons]
    cases i with
    | zero =>
      rw [Nat.zero_mul, Nat.zero_add, List.getElem?_append_left (by rw [rcells_len]; exact hf)]
      rfl
    | succ i =>
      rw [List.getElem?_append_right (by rw [rcells_len]; omega), rcells_len, show (i + 1) * 4 + f - 4 = i * 4 + f by omega]
      exact ih i f (by simpa using hi) hf
theorem rrow_one (l : List Rg) : ∀ u ∈ rrow l, u.oneCell' = true := by
  intro u hu
  unfold rrow at hu
  obtain ⟨r, _, h⟩ := List.mem_flatMap.1 hu
  simp only [rcells, List.mem_cons, List.not_mem_nil, or_false] at h
  rcases h with rfl | rfl | rfl | rfl <;> rfl
theorem rrow_append (l m : List Rg) : rrow (l ++ m) = rrow l ++ rrow m := by unfold rrow; rw [List.flatMap_append]
theorem infoR : (Try.prog.info? 40).map (fun i => (i.zero, i.size, i.bytes)) = some (some (.agg #[.int .u32 0, .int .u32 0, .bool false, .bool false]), 4, 12) := by kernel_rfl
/-- What is owned, as regions that lie in a world. -/
theorem own_regs {w : World} {base : Nat} {v : Value} {l : List Rg} (h : w.ownsRow base 40 4 v l.length (rrow l)) (h0 : 0 < l.length) :
    ∃ g cap, v = .slice (some ⟨g, 0, none⟩) l.length cap ∧ base ≤ g ∧ g < w.heap.size ∧ l.length ≤ cap ∧ Regs w (some ⟨g, 0, none⟩) g 0 l := by
  have h' := h
  obtain ⟨_, h1 | ⟨g, cap, cur, rfl, h2, h3, h4, _, _, _⟩⟩ := h
  · omega
  · refine ⟨g, cap, rfl, h2, (Array.getElem?_eq_some_iff.1 h3).1, h4, ⟨fun _ => rfl, fun _ => (Array.getElem?_eq_some_iff.1 h3).1, fun i hi f u hu => ?_⟩⟩
    have hf : f < 4 := by
      have := (List.getElem?_eq_some_iff.1 hu).1
      simpa [rcells_len] using this
    rw [show 0 + i * 4 + f = i * 4 + f by omega, h'.cellAt (i * 4 + f) (by omega), rrow_at l i f hi hf]
    exact hu

def ofP (ws : Nat → Int) (k : Nat) : List Rg := (List.range k).map fun i => pairV (ws (2 * i)) (ws (2 * i + 1))
theorem ofP_len (ws : Nat → Int) (k : Nat) : (ofP ws k).length = k := by simp [ofP]
theorem ofP_next (ws : Nat → Int) (k : Nat) : ofP ws (k + 1) = ofP ws k ++ [pairV (ws (2 * k)) (ws (2 * k + 1))] := by simp [ofP, List.range_succ]

structure OfSt (w : World) (ws : Nat → Int) (k : Nat) (v : Value) (wr : World) : Prop where
  row : wr.heap[w.heap.size]? = some (.cells (row16 ws) 26)
  own : wr.ownsRow (w.heap.size + 1) 40 4 v k (rrow (ofP ws k))
  below : Below w.heap.size w wr

set_option maxRecDepth 100000 in
set_option maxHeartbeats 4000000 in
theorem rOf (ws : Nat → Int) (hu : ∀ i, U32 (ws i)) (w : World) :
    Calls Try.prog 13 #[.agg (row16 ws)] w fun e w' => ∃ g cap, e = .returned (.slice (some ⟨g, 0, none⟩) 8 cap) ∧ w.heap.size < g ∧ g < w'.heap.size ∧ 8 ≤ cap ∧ Regs w' (some ⟨g, 0, none⟩) g 0 (ofV ws) ∧ Below w.heap.size w w' := by
  obtain ⟨i0, hi0, hz0, hz1, hz2⟩ := info_parts infoR
  have HU : Hid _ := hu
  clear hu
  have hbox : ∀ w, (Instr.box 26 (.agg (row16 ws))).run Try.prog w = .ok (.pointer (some ⟨w.heap.size, 0, none⟩)) (w.alloc (.cells (row16 ws) 26)) := fun w => by kernel_rfl
  go_enter Try.func13, Try.ntmps13
  go_wp2_with fail
  have R0 : Hid (OfSt w ws 0 (.slice none 0 0) (w.alloc (.cells (row16 ws) 26))) := ⟨alloc_at _ _, World.ownsRow_nil _ _ _ _, (Below.refl _ _).alloc (Nat.le_refl _) _⟩
  generalize w.alloc (.cells (row16 ws) 26) = V at *
  clear hbox
  go_loopw [3, 4] (fun lv i wr => ∃ k m : Nat, k ≤ 8 ∧ m = 2 * k ∧ i = .int .i64 m ∧ Hid (OfSt w ws k lv wr)) (fun _ i _ => 16 - (intOf i).toNat)
  case atStart => exact ⟨0, 0, Nat.zero_le _, rfl, rfl, R0.out⟩
  case round =>
    clear R0
    obtain ⟨k, m, hk, hm, rfl, hr⟩ := hrel
    by_cases hlt : k < 8
    · obtain ⟨cc, cf, cs⟩ := cells_of hr.out.row
      have c0 := cc (m) _ (row16_at _ _ (by omega))
      have c1 := cc (m + 1) _ (row16_at _ _ (by omega))
      obtain ⟨x0, x1⟩ := HU.out (m)
      obtain ⟨y0, y1⟩ := HU.out (m + 1)
      have HX : Hid _ := hr.out
      have HO : Hid (wr.ownsRow (w.heap.size + 1) 40 4 u3 k (rrow (ofP ws k))) := hr.out.own
      have HG : Hid (∀ b, u3.ownBlock = some b → w.heap.size + 1 ≤ b) := fun b hb => by
        obtain ⟨_, ⟨rfl, _⟩ | ⟨g, cap, cur, rfl, hg, _⟩⟩ := hr.out.own
        · cases hb
        · simp only [Value.ownBlock, Option.some.injEq] at hb
          omega
      have ag : u3.ownBlock ≠ some w.heap.size := fun e => by have := HG.out _ e; omega
      clear hr cc cf
      generalize hx : ws (m) = x at *
      generalize hy : ws (m + 1) = y at *
      have t1 : x.tdiv 4 = x / 4 := Int.tdiv_eq_ediv_of_nonneg x0
      have t2 : y.tdiv 4 = y / 4 := Int.tdiv_eq_ediv_of_nonneg y0
      have t3 : y.tmod 2 = y % 2 := Int.tmod_eq_emod_of_nonneg y0
      have t4 : y.tdiv 2 = y / 2 := Int.tdiv_eq_ediv_of_nonneg y0
      have i1 : (0 : Int) ≤ (m : Int) := by omega
      have i2 : (m : Int) < 16 := by omega
      have HM : Hid (m = 2 * k) := hm
      have i3 : (m : Int) + 1 < 16 := by omega
      clear hm
      have i4 : (0 : Int) ≤ (m : Int) + 1 := by omega
      have v1 : IntKind.i64.wrap ((m : Int) + 1) = (m : Int) + 1 := by rw [IntKind.wrap_i64]; omega
      have v2 : ((m : Int) + 1).toNat = m + 1 := by omega
      have v3 : IntKind.u32.wrap (x / 4 * 4) = x / 4 * 4 := by rw [IntKind.wrap_u32']; omega
      have v4 : IntKind.u32.wrap (y / 4 * 4) = y / 4 * 4 := by rw [IntKind.wrap_u32']; omega
      have v5 : IntKind.u32.wrap (x / 4) = x / 4 := by rw [IntKind.wrap_u32']; omega
      have v6 : IntKind.u32.wrap (y / 4) = y / 4 := by rw [IntKind.wrap_u32']; omega
      have v7 : IntKind.u32.wrap (y / 2) = y / 2 := by rw [IntKind.wrap_u32']; omega
      have t5 : (y / 2).tmod 2 = y / 2 % 2 := Int.tmod_eq_emod_of_nonneg (by omega)
      go_wp2_with fail
      go_region_held3 (fun w' => w'.cell? ⟨w.heap.size, m, none⟩ = some (.int .u32 x) ∧ w'.cell? ⟨w.heap.size, m + 1, none⟩ = some (.int .u32 y))
        (first
          | go_keep
          | (go_split_ands
             refine ⟨?_, ?_⟩
             · (rw [hgrow.cell_far _ (by simp; omega) (Ne.symm ag)]; assumption)
             · (rw [hgrow.cell_far _ (by simp; omega) (Ne.symm ag)]; assumption)))
        ((refine step_append_lies _ (by rfl) _ _ _ (by rfl) (w.heap.size + 1) 40 i0 _ 4 12 Try.underlying23 hi0 hz0 hz1 hz2 rfl (by omega) u3 k (rrow (ofP ws k)) (by rfl) (World.ownsRow.drew (World.ownsRow.alloc HO.out _))
            ⟨wr.heap.size, 0, none⟩ 1 1 (rcells (pairV x y)) (by rfl) (by rfl) (World.news_of_block (cs := (rcells (pairV x y)).toArray) (t := 40) (fr := (0, 0)) (heap_alloc_new wr _)) (by simp [rcells, Value.oneCell'])
            (by omega) (by unfold maxLen; omega) (by omega) (by simp; omega) (wr.heap.size + 1) (by simp) ?_; intro gg cap w1 hown1 hgrow hat hlt))
      have HF : Hid (OfSt w ws (k + 1) (.slice (some ⟨gg, 0, none⟩) (k + 1) cap) w1) := by
        have hsz : w.heap.size + 1 ≤ wr.heap.size := cs
        refine ⟨?_, ?_, ?_⟩
        · have := hgrow.block w.heap.size (by simp; omega) (Ne.symm ag)
          rw [this]
          exact kept_on HX.out.row (((Below.refl _ _).alloc (Nat.le_refl _) _).drew)
        · rw [ofP_next, rrow_append, ← HM.out, hx, hy]
          exact hown1
        · exact ((HX.out.below.alloc (by omega) _).drew).grown hgrow (by simp; omega) (fun b hb => by have := HG.out b hb; omega)
      clear hgrow hown1 hat HX HO HG ag
      go_wp2_with fail
      exact ⟨⟨k + 1, m + 2, by omega, by have := HM.out; omega, by go_num, HF.out⟩, by simp [intOf]; omega⟩
    · have hk8 : k = 8 := by omega
      subst hk8
      have hreg := own_regs (l := ofP ws 8) (by rw [ofP_len]; exact hr.out.own) (by rw [ofP_len]; decide)
      rw [ofP_len] at hreg
      obtain ⟨g, cap, rfl, h1, h2, h3, h4⟩ := hreg
      have HB : Hid _ := hr.out.below
      clear hr
      go_wp2
      go_ret
      exact ⟨g, cap, rfl, h1, h2, h3, h4, HB.out⟩
end Go.Proofs.Ytioppnlojlecaaa
