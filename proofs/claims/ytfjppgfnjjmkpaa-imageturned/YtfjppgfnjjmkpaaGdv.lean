/-
  Regions, as plain data, by the document; where they lie in a world.
-/
import Derived.Test.YtfjppgfnjjmkpaaChecked
import Derived.Test.YtfjppgfnjjmkpaaFields
import Derived.Test.YtfjppgfnjjmkpaaHelp
import Derived.WalkKit
import Derived.WalkSpells
import Derived.WalkLawsBesides
import Derived.Outline
import Derived.RowKit3
import Derived.Below
import Derived.Sort.Grow
namespace Go.Proofs.Ytfjppgfnjjmkpaa
open Go.RowKit

/-- A region: from lo up to ahead of hi. -/
structure Rg where
  lo : Int
  hi : Int
  x : Bool
  w : Bool
def noRg : Rg := ⟨0, 0, false, false⟩
def rcells (r : Rg) : List Value := [.int .u32 r.lo, .int .u32 r.hi, .bool r.x, .bool r.w]
def rgAt (l : List Rg) (i : Nat) : Rg := l.getD i noRg
def RgU (r : Rg) : Prop := U32 r.lo ∧ U32 r.hi
theorem rgAt_u {l : List Rg} (h : ∀ r ∈ l, RgU r) (i : Nat) : RgU (rgAt l i) := by
  unfold rgAt
  rw [List.getD_eq_getElem?_getD]
  cases hi : l[i]? with
  | none => exact ⟨⟨by decide, by decide⟩, ⟨by decide, by decide⟩⟩
  | some z => exact h z (List.mem_of_getElem? hi)

/-- Does one region allow it? -/
def allow1 (r : Rg) (p s h : Int) : Bool := decide (r.lo ≤ p) && decide (p + s ≤ r.hi) && (decide (h ≠ 2) || r.x) && (decide (h ≠ 1) || r.w)
def allowV (l : List Rg) (p s h : Int) : Bool := if s < 1 ∨ h < 0 ∨ 2 < h then false else l.any fun r => allow1 r p s h
/-- The region of two words. -/
def pairV (a b : Int) : Rg := ⟨a / 4 * 4, b / 4 * 4, b % 2 == 1, b / 2 % 2 == 1⟩
def ofV (ws : Nat → Int) : List Rg := (List.range 8).map fun i => pairV (ws (2 * i)) (ws (2 * i + 1))
/-- The second word of a region. -/
def hiV (r : Rg) : Int := r.hi + (if r.x then 1 else 0) + (if r.w then 2 else 0)
def badV (r : Rg) : Bool := decide (r.lo % 4 ≠ 0) || decide (r.hi % 4 ≠ 0)
/-- The j-th word of regions. -/
def putAt (l : List Rg) (j : Nat) : Int := if j / 2 < l.length then (if j % 2 = 0 then (rgAt l (j / 2)).lo else hiV (rgAt l (j / 2))) else 0
def gputE (l : List Rg) : Int := if 8 < l.length then 9 else if l.any badV then 4 else 0
def putW (l : List Rg) (j : Nat) : Int := if gputE l = 0 then putAt l j else 0
/-- Sixteen words as a value. -/
def row16 (f : Nat → Int) : Array Value := ((List.range 16).map fun i => Value.int .u32 (f i)).toArray

/-- Regions that lie in a world, behind one another. -/
structure Regs (w : World) (sa : Option Addr) (b off : Nat) (l : List Rg) : Prop where
  sa : 0 < l.length → sa = some ⟨b, off, none⟩
  there : 0 < l.length → b < w.heap.size
  cell : ∀ i, i < l.length → ∀ f v, (rcells (rgAt l i))[f]? = some v → w.cell? ⟨b, off + i * 4 + f, none⟩ = some v
theorem Regs.below {w w' : World} {sa : Option Addr} {b off : Nat} {l : List Rg} (h : Regs w sa b off l) (hb : Below w.heap.size w w') : Regs w' sa b off l :=
  ⟨h.sa, fun n => Nat.lt_of_lt_of_le (h.there n) hb.size, fun i hi f v hv => by rw [hb.cell (p := ⟨b, off + i * 4 + f, none⟩) (h.there (by omega))]; exact h.cell i hi f v hv⟩
theorem Regs.drew {w : World} {sa : Option Addr} {b off : Nat} {l : List Rg} (h : Regs w sa b off l) : Regs w.drew sa b off l := ⟨h.sa, h.there, h.cell⟩

theorem any_at {l : List Rg} {f : Rg → Bool} {i : Nat} (hi : i < l.length) (h : f (rgAt l i) = true) : l.any f = true := by
  rw [List.any_eq_true]
  refine ⟨rgAt l i, ?_, h⟩
  unfold rgAt
  rw [List.getD_eq_getElem?_getD, List.getElem?_eq_getElem hi]
  exact List.getElem_mem _
theorem any_none {l : List Rg} {f : Rg → Bool} (h : ∀ i, i < l.length → f (rgAt l i) = false) : l.any f = false := by
  rw [List.any_eq_false]
  intro r hr
  obtain ⟨i, hi, rfl⟩ := List.mem_iff_getElem.1 hr
  have := h i hi
  unfold rgAt at this
  rw [List.getD_eq_getElem?_getD, List.getElem?_eq_getElem hi] at this
  simpa using this
end Go.Proofs.Ytfjppgfnjjmkpaa
