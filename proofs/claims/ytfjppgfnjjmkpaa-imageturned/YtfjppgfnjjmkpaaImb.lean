/-
  Package image: its smallest functions: hasWords, isEmpty, has, isKey; a name is taken; bytes are taken.
-/
import Derived.Test.YtfjppgfnjjmkpaaIma
import Derived.Test.YtfjppgfnjjmkpaaGdv
import Derived.Test.YtfjppgfnjjmkpaaFill
import Derived.Test.YtfjppgfnjjmkpaaCells
namespace Go.Proofs.Ytfjppgfnjjmkpaa
open Go.RowKit

def rgV (r : Rg) : Value := .agg #[.int .u32 r.lo, .int .u32 r.hi, .bool r.x, .bool r.w]
def isEmptyV (r : Rg) : Bool := r.lo == r.hi
def hasV (r : Rg) (x w : Bool) : Bool := (r.x == x) && (r.w == w)
def isKeyV (r all : Rg) : Bool := decide (all.lo ≤ r.lo) && decide (r.lo ≤ r.hi) && decide (r.hi ≤ all.hi) && (r.hi - r.lo == 16)
theorem grown_below {w w' : World} {r : Option Nat} (h : Below w.heap.size w w') : w.grownBy w' r := ⟨h.os, h.tape, h.output, h.size, fun k hk _ => h.block k hk⟩
theorem iEmpty (r : Rg) (w : World) : Calls Try.prog 27 #[rgV r] w fun e w' => e = .returned (.bool (isEmptyV r)) ∧ Below w.heap.size w w' := by
  unfold rgV isEmptyV
  go_enter Try.func27, Try.ntmps27
  go_wp2
  go_ret
  exact ⟨rfl, (Below.refl _ _).alloc (Nat.le_refl _) _⟩
theorem iHas (r : Rg) (x y : Bool) (w : World) : Calls Try.prog 28 #[rgV r, .bool x, .bool y] w fun e w' => e = .returned (.bool (hasV r x y)) ∧ Below w.heap.size w w' := by
  unfold rgV hasV
  obtain ⟨lo, hi, a, b⟩ := r
  cases h1 : (a == x)
  · go_enter Try.func28, Try.ntmps28
    go_wp2
    go_ret
    exact ⟨rfl, (Below.refl _ _).alloc (Nat.le_refl _) _⟩
  · go_enter Try.func28, Try.ntmps28
    go_wp2
    go_ret
    exact ⟨rfl, (Below.refl _ _).alloc (Nat.le_refl _) _⟩
theorem iIsKey (r s : Rg) (hr : RgU r) (w : World) : Calls Try.prog 30 #[rgV r, rgV s] w fun e w' => e = .returned (.bool (isKeyV r s)) ∧ Below w.heap.size w w' := by
  have HB : Below w.heap.size w ((w.alloc (.cells #[.int .u32 r.lo, .int .u32 r.hi, .bool r.x, .bool r.w] 25)).alloc (.cells #[.int .u32 s.lo, .int .u32 s.hi, .bool s.x, .bool s.w] 25)) := box2
  have HBh : Hid _ := HB
  obtain ⟨⟨h0, h1⟩, h2, h3⟩ := hr
  unfold rgV isKeyV
  clear HB
  by_cases c1 : s.lo ≤ r.lo
  · by_cases c2 : r.lo ≤ r.hi
    · by_cases c3 : r.hi ≤ s.hi
      · have c4 : (r.hi - r.lo) % 4294967296 = r.hi - r.lo := by omega
        have d1 : decide (s.lo ≤ r.lo) = true := decide_eq_true c1
        have d2 : decide (r.lo ≤ r.hi) = true := decide_eq_true c2
        have d3 : decide (r.hi ≤ s.hi) = true := decide_eq_true c3
        go_enter Try.func30, Try.ntmps30
        go_wp2
        go_ret
        exact ⟨by rw [d1, d2, d3]; rfl, HBh.out⟩
      · have d1 : decide (s.lo ≤ r.lo) = true := decide_eq_true c1
        have d2 : decide (r.lo ≤ r.hi) = true := decide_eq_true c2
        have d3 : decide (r.hi ≤ s.hi) = false := decide_eq_false c3
        go_enter Try.func30, Try.ntmps30
        go_wp2
        go_ret
        exact ⟨rfl, HBh.out⟩
    · have d1 : decide (s.lo ≤ r.lo) = true := decide_eq_true c1
      have d2 : decide (r.lo ≤ r.hi) = false := decide_eq_false c2
      go_enter Try.func30, Try.ntmps30
      go_wp2
      go_ret
      exact ⟨rfl, HBh.out⟩
  · have d1 : decide (s.lo ≤ r.lo) = false := decide_eq_false c1
    go_enter Try.func30, Try.ntmps30
    go_wp2
    go_ret
    exact ⟨rfl, HBh.out⟩
def newN (l : List ByteArray) (s : ByteArray) : Bool := !(hasN l s) && !(s.toList == [])
set_option maxHeartbeats 1000000 in
theorem iKnow {w : World} {g n : Nat} {l : List ByteArray} (h : NamesIs w g n l) (s : ByteArray) (hs : Nm s) (hn : n < 1000000) : Calls Try.prog 29 #[.map (some g), .string s] w fun e w' => e = .returned (.bool (newN l s)) ∧ w.grownBy w' (some g) ∧ (newN l s = true → NamesIs w' g (n + 1) (l ++ [s])) := by
  have N1 : Hid (NamesIs (w.alloc (.cells #[] 70)) g n l) := names_kept h ((Below.refl _ _).alloc (Nat.le_refl _) _)
  have G1 : Hid (w.grownBy (w.alloc (.cells #[] 70)) (some g)) := grown_below ((Below.refl _ _).alloc (Nat.le_refl _) _)
  have H0 : Hid _ := h
  have HS : Hid _ := hs
  have HM : Hid (n < maxLen) := by show n < maxLen; unfold maxLen; omega
  unfold newN
  clear h hs hn
  cases h1 : hasN l s
  · cases h2 : (s.toList == [])
    · go_enter Try.func29, Try.ntmps29
      go_wp2_with (first | (refine wpList_nget rfl rfl rfl rfl H0.out HS.out ?_; rw [h1]) | (refine wpList_nput rfl rfl rfl rfl rfl N1.out HS.out HM.out ?_; intro w3 M3 G3; have G4 := G1.out.trans G3; clear G3))
      go_ret
      exact ⟨rfl, G4, fun _ => M3⟩
    · go_enter Try.func29, Try.ntmps29
      go_wp2_with (first | (refine wpList_nget rfl rfl rfl rfl H0.out HS.out ?_; rw [h1]))
      go_ret
      exact ⟨rfl, G1.out, fun e => by cases e⟩
  · go_enter Try.func29, Try.ntmps29
    go_wp2_with (first | (refine wpList_nget rfl rfl rfl rfl H0.out HS.out ?_; rw [h1]))
    go_ret
    exact ⟨rfl, G1.out, fun e => by cases e⟩
/-- The spots of a region, so many bytes each. -/
def inR (lo hi step a : Int) : Bool := decide (lo ≤ a) && decide (a < hi) && ((a - lo) % step == 0)
def addR (M : Int → Int → Bool) (o lo hi step : Int) (o' a : Int) : Bool := (o' == o && inR lo hi step a) || M o' a
theorem spot_ext {w : World} {g n : Nat} {M N : Int → Int → Bool} (h : SpotIs w g n M) (e : ∀ o a, M o a = N o a) : SpotIs w g n N := by
  have : M = N := funext fun o => funext fun a => e o a
  rwa [← this]
theorem spot_mono {w : World} {g n m : Nat} {M : Int → Int → Bool} (h : SpotIs w g n M) (hn : n ≤ m) : SpotIs w g m M := by
  obtain ⟨⟨D, h1, h2⟩⟩ := h
  exact ⟨⟨D, h1.mono hn, h2⟩⟩
theorem addR_none (M : Int → Int → Bool) (o lo step : Int) (o' a : Int) : addR M o lo lo step o' a = M o' a := by
  unfold addR inR
  have : (decide (lo ≤ a) && decide (a < lo)) = false := by
    by_cases h : lo ≤ a
    · rw [decide_eq_false (show ¬ a < lo by omega), Bool.and_false]
    · rw [decide_eq_false h]; rfl
  rw [this]
  simp
theorem addR_next (M : Int → Int → Bool) (o lo step : Int) (hs : 0 < step) (j : Nat) (o' a : Int) : putS (addR M o lo (lo + step * j) step) o (lo + step * j) o' a = addR M o lo (lo + step * ((j : Int) + 1)) step o' a := by
  unfold putS addR
  cases ho : (o' == o)
  · simp
  · have key : (a == lo + step * j || inR lo (lo + step * j) step a) = inR lo (lo + step * ((j : Int) + 1)) step a := by
      rw [Bool.eq_iff_iff]
      unfold inR
      simp only [Bool.or_eq_true, Bool.and_eq_true, beq_iff_eq, decide_eq_true_eq]
      have e1 : step * ((j : Int) + 1) = step * j + step := by rw [Int.mul_add, Int.mul_one]
      have h0 : 0 ≤ step * (j : Int) := Int.mul_nonneg (by omega) (by omega)
      rw [e1]
      constructor
      · rintro (h | ⟨⟨h1, h2⟩, h3⟩)
        · subst h
          refine ⟨⟨by omega, by omega⟩, ?_⟩
          rw [show lo + step * (j : Int) - lo = step * (j : Int) by omega]
          exact Int.mul_emod_right _ _
        · exact ⟨⟨h1, by omega⟩, h3⟩
      · rintro ⟨⟨h1, h2⟩, h3⟩
        by_cases h4 : a < lo + step * j
        · exact .inr ⟨⟨h1, h4⟩, h3⟩
        · left
          have h5 := Int.emod_add_mul_ediv (a - lo) step
          rw [h3] at h5
          have h6 : (a - lo) / step = (j : Int) := by
            have a1 : (j : Int) ≤ (a - lo) / step := by
              rw [Int.le_ediv_iff_mul_le hs, Int.mul_comm]
              omega
            have a2 : (a - lo) / step < (j : Int) + 1 := by
              rw [Int.ediv_lt_iff_lt_mul hs, Int.mul_comm, e1]
              omega
            omega
          rw [h6] at h5
          omega
    simp only [Bool.true_and]
    rw [← key, Bool.or_assoc]
end Go.Proofs.Ytfjppgfnjjmkpaa
