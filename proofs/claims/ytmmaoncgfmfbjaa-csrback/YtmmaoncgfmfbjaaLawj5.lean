/-
  What was written is read, but for bits that there are not: what the walks need.
-/
import Derived.Test.YtmmaoncgfmfbjaaCsk
import Derived.Test.YtmmaoncgfmfbjaaFill
import Derived.Test.YtmmaoncgfmfbjaaCame
import Derived.Deep.MidRow
import Derived.Laws.StructEq
namespace Go.Proofs.Ytmmaoncgfmfbjaa
open Go.RowKit

def backTab (g : Int) : Array Value := #[.int .i64 832, .int .i64 834, .int .i64 835, .int .i64 773, .int .i64 833, .int .i64 772, .int .i64 (1984 + g)]
def row32 (f : Nat → Int) : Array Value := ((List.range 32).map fun i => Value.int .u32 (f i)).toArray
theorem row32_size (f : Nat → Int) : (row32 f).size = 32 := by simp [row32]
theorem info32 : (Try.prog.info? 24).map (·.size) = some 32 := by kernel_rfl
theorem und32 : Try.prog.underlying 24 = some (.array 32 23) := by kernel_rfl
theorem regs_alloc (w : World) : (Instr.alloc 27 true (.tuple #[])).run Try.prog w = .ok (.pointer (some ⟨w.heap.size, 0, none⟩)) (w.alloc (.cells (regs57 (fun _ => 0) false) 27)) := by kernel_rfl
theorem regs_range32 {w : World} {b : Nat} {f g : Nat → Int} {u : Bool} {t : TypeId} (h : w.heap[b]? = some (.cells (regs57 f u) t)) (hg : ∀ j, j < 32 → f j = g j) : w.rangeAt b 0 (row32 g).toList := by
  refine range_of h fun j v hv => ?_
  have hj : j < 32 := by
    have := (List.getElem?_eq_some_iff.1 hv).1
    rwa [Array.length_toList, row32_size] at this
  rw [Nat.zero_add, regs57_at _ _ _ (by omega)]
  unfold rv
  rw [if_neg (by omega), hg j hj]
  simp [row32, hj] at hv
  rw [hv]
theorem regs_cell {w : World} {b : Nat} {f : Nat → Int} {u : Bool} {t : TypeId} (h : w.heap[b]? = some (.cells (regs57 f u) t)) (i : Nat) (hi : i < 57) (h3 : i ≠ 33) {y : Int} (hy : f i = y) : w.cell? ⟨b, i, none⟩ = some (.int .u32 y) := by
  refine (cells_of h).1 i _ ?_
  rw [regs57_at _ _ _ hi]
  unfold rv
  rw [if_neg h3, hy]
theorem regs_user {w : World} {b : Nat} {f : Nat → Int} {u : Bool} {t : TypeId} (h : w.heap[b]? = some (.cells (regs57 f u) t)) : w.cell? ⟨b, 33, none⟩ = some (.bool u) := (cells_of h).1 33 _ rfl

set_option maxRecDepth 100000 in
set_option maxHeartbeats 2000000 in
theorem eq32 (f : Nat → Int) (w : World) : (Op.equalIn 10000 24 (.agg (row32 f)) (.agg (row32 f))).run Try.prog w = .ok true w := by
  have u3 := Try.underlying23
  have a3 := Try.isAgg23
  have z3 := Try.sizeOf23
  show (Op.equalIn 10000 24 (.agg #[.int .u32 (f 0), .int .u32 (f 1), .int .u32 (f 2), .int .u32 (f 3), .int .u32 (f 4), .int .u32 (f 5), .int .u32 (f 6), .int .u32 (f 7), .int .u32 (f 8), .int .u32 (f 9), .int .u32 (f 10), .int .u32 (f 11), .int .u32 (f 12), .int .u32 (f 13), .int .u32 (f 14), .int .u32 (f 15), .int .u32 (f 16), .int .u32 (f 17), .int .u32 (f 18), .int .u32 (f 19), .int .u32 (f 20), .int .u32 (f 21), .int .u32 (f 22), .int .u32 (f 23), .int .u32 (f 24), .int .u32 (f 25), .int .u32 (f 26), .int .u32 (f 27), .int .u32 (f 28), .int .u32 (f 29), .int .u32 (f 30), .int .u32 (f 31)]) (.agg #[.int .u32 (f 0), .int .u32 (f 1), .int .u32 (f 2), .int .u32 (f 3), .int .u32 (f 4), .int .u32 (f 5), .int .u32 (f 6), .int .u32 (f 7), .int .u32 (f 8), .int .u32 (f 9), .int .u32 (f 10), .int .u32 (f 11), .int .u32 (f 12), .int .u32 (f 13), .int .u32 (f 14), .int .u32 (f 15), .int .u32 (f 16), .int .u32 (f 17), .int .u32 (f 18), .int .u32 (f 19), .int .u32 (f 20), .int .u32 (f 21), .int .u32 (f 22), .int .u32 (f 23), .int .u32 (f 24), .int .u32 (f 25), .int .u32 (f 26), .int .u32 (f 27), .int .u32 (f 28), .int .u32 (f 29), .int .u32 (f 30), .int .u32 (f 31)])).run Try.prog w = .ok true w
  rw [show (10000 : Nat) = 9999 + 1 from rfl, Op.equalIn]
  simp only [Sem.run_bind, run_underlying und32, Result.andThen_ok]
  simp only [Std.Legacy.Range.forIn_eq_forIn_range', Std.Legacy.Range.size, Nat.sub_zero, Nat.add_sub_cancel, Nat.div_one, List.range'_succ, List.range'_zero, List.forIn_cons, List.forIn_nil]
  go_simp

set_option maxRecDepth 100000 in
set_option maxHeartbeats 2000000 in
theorem kreadOf (K : CsrK) (f : Nat → Int) (u : Bool) (hf : ∀ i, U32 (f i)) (n : Int) (w : World) :
    Calls Try.prog 18 #[.agg (regs57 f u), .int .i64 n] w fun e w' => e = .returned (.int .u32 (readN f n 0 false)) ∧ Below w.heap.size w w' := by
  have HK : Hid _ := K.read f u hf n 0 false
  clear K hf
  have hbox := box57 f u
  obtain ⟨fs, hfs⟩ := und57
  have HS : Hid _ := hfs
  clear hfs
  generalize readN f n 0 false = N at *
  generalize readE n = E at *
  go_enter Try.func18, Try.ntmps18
  go_wp2_with (first | (refine wpList_row (by rfl) 27 (.tmp 2) rfl _ rfl _ _ _ (alloc_at w _) HS.out rfl (by rw [regs57_size]; exact info57) ?_))
  refine (HK.out _).mono ?_
  rintro e w1 ⟨rfl, b1⟩
  have B1 := below_first b1
  go_wp2
  go_ret
  exact ⟨rfl, B1⟩

/-- What lies there ahead of the last statement. -/
structure BackIs (w0 : World) (F G B : Nat → Int) (u : Bool) (r p q s : Nat) (w : World) : Prop where
  r : w.heap[r]? = some (.cells (regs57 F u) 27)
  p : w.heap[p]? = some (.cells (regs57 G u) 27)
  q : w.heap[q]? = some (.cells (regs57 B u) 27)
  s : w.heap[s]? = some (.cells (regs57 F u) 27)
  below : Below w0.heap.size w0 w
theorem BackIs.on {w0 : World} {F G B : Nat → Int} {u : Bool} {r p q s : Nat} {w w' : World} (h : BackIs w0 F G B u r p q s w) (hb : Below w.heap.size w w') : BackIs w0 F G B u r p q s w' :=
  ⟨kept_on h.r hb, kept_on h.p hb, kept_on h.q hb, kept_on h.s hb, below_step h.below hb⟩

/-! ### The registers that are written -/
theorem set1_back (f : Nat → Int) (i : Nat) (x : Int) : set1 (set1 f i x) i (f i) = f := by
  funext j
  unfold set1
  by_cases h : j = i
  · rw [if_pos h, h]
  · rw [if_neg h, if_neg h]
/-- A register of its own cell, behind the first ones. -/
structure Own (m : Int) (i : Nat) : Prop where
  cell : cellOf m = some i
  lo : 34 ≤ i
  hi : i < 57
  n1 : m ≠ 836
  n2 : m ≠ 3072
theorem Own.e0 {m : Int} {i : Nat} (h : Own m i) : writeE m = 0 := by unfold writeE; rw [if_neg (by have := h.n1; have := h.n2; omega), h.cell]; rfl
theorem Own.f0 {m : Int} {i : Nat} (h : Own m i) : readE m = 0 := by unfold readE; rw [if_pos (Or.inr (Or.inr (by rw [h.cell]; rfl)))]
theorem Own.wr {m : Int} {i : Nat} (h : Own m i) (f : Nat → Int) (x : Int) : writeF f m x = set1 f i (keepV m x) := by unfold writeF; rw [h.cell]
theorem Own.rd {m : Int} {i : Nat} (h : Own m i) (f : Nat → Int) (now : Int) (due : Bool) : readN f m now due = f i := by unfold readN; rw [if_neg h.n1, if_neg h.n2, h.cell]
theorem Own.again {m : Int} {i : Nat} (h : Own m i) (f : Nat → Int) (x now : Int) (due : Bool) : readN (writeF f m x) m now due = keepV m x := by rw [h.rd, h.wr]; simp [set1]
theorem Own.keeps {m : Int} {i : Nat} (h : Own m i) (f : Nat → Int) (x : Int) (j : Nat) (hj : j < 34) : writeF f m x j = f j := by rw [h.wr]; unfold set1; rw [if_neg (by have := h.lo; omega)]
theorem Own.back {m : Int} {i : Nat} (h : Own m i) (f : Nat → Int) (x : Int) (hk : ∀ y, keepV m y = y) : writeF (writeF f m x) m (readN f m 0 false) = f := by
  rw [h.rd, h.wr, h.wr, hk, hk, set1_back]
theorem ownTab (g : Nat) (hg : g < 16) (k : Nat) (hk : k < 7) : ∃ m i, (backTab (g : Int))[k]? = some (.int .i64 m) ∧ Own m i ∧
    (k = 3 ∨ k = 4 → ∀ y, keepV m y = y / 4 * 4) ∧ (k = 5 → ∀ y, keepV m y = bits .and .u32 y 128) ∧ (k ≠ 3 → k ≠ 4 → k ≠ 5 → ∀ y, keepV m y = y) := by
  have : k = 0 ∨ k = 1 ∨ k = 2 ∨ k = 3 ∨ k = 4 ∨ k = 5 ∨ k = 6 := by omega
  rcases this with rfl | rfl | rfl | rfl | rfl | rfl | rfl
  · exact ⟨832, 37, rfl, ⟨by decide, by decide, by decide, by decide, by decide⟩, fun h => by omega, fun h => by omega, fun _ _ _ y => by unfold keepV; simp⟩
  · exact ⟨834, 39, rfl, ⟨by decide, by decide, by decide, by decide, by decide⟩, fun h => by omega, fun h => by omega, fun _ _ _ y => by unfold keepV; simp⟩
  · exact ⟨835, 40, rfl, ⟨by decide, by decide, by decide, by decide, by decide⟩, fun h => by omega, fun h => by omega, fun _ _ _ y => by unfold keepV; simp⟩
  · exact ⟨773, 36, rfl, ⟨by decide, by decide, by decide, by decide, by decide⟩, fun _ y => by unfold keepV; simp, fun h => by omega, fun h => by omega⟩
  · exact ⟨833, 38, rfl, ⟨by decide, by decide, by decide, by decide, by decide⟩, fun _ y => by unfold keepV; simp, fun h => by omega, fun _ h => by omega⟩
  · exact ⟨772, 35, rfl, ⟨by decide, by decide, by decide, by decide, by decide⟩, fun h => by omega, fun _ y => by unfold keepV; simp, fun _ _ h => by omega⟩
  · refine ⟨1984 + (g : Int), 41 + g, rfl, ⟨?_, by omega, by omega, by omega, by omega⟩, fun h => by omega, fun h => by omega, fun _ _ _ y => ?_⟩
    · unfold cellOf
      rw [if_neg (by omega), if_neg (by omega), if_neg (by omega), if_neg (by omega), if_neg (by omega), if_neg (by omega), if_neg (by omega), if_pos (by omega)]
      congr 2
      omega
    · unfold keepV
      rw [if_neg (by omega), if_neg (by omega), if_neg (by omega)]
theorem write_836 (f : Nat → Int) (x : Int) : writeF f 836 x = f := rfl
theorem write_3072 (f : Nat → Int) (x : Int) : writeF f 3072 x = f := rfl
end Go.Proofs.Ytmmaoncgfmfbjaa
