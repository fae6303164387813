/-
  Regions that may be are told again by their words.
-/
import Derived.Test.YtioppnlojlecaaaGdm
namespace Go.Proofs.Ytioppnlojlecaaa
open Go.RowKit

/-- The region that two numbers make. -/
def backV (a b : Int) : Rg := ⟨a / 4 * 4, b / 4 * 4, a % 2 == 1, b % 2 == 1⟩
def backP (zs : List Int) (k : Nat) : List Rg := (List.range k).map fun i => backV (zs.getD (2 * i) 0) (zs.getD (2 * i + 1) 0)
theorem backP_len (zs : List Int) (k : Nat) : (backP zs k).length = k := by simp [backP]
theorem backP_next (zs : List Int) (k : Nat) : backP zs (k + 1) = backP zs k ++ [backV (zs.getD (2 * k) 0) (zs.getD (2 * k + 1) 0)] := by simp [backP, List.range_succ]
theorem backV_u {a b : Int} (ha : U32 a) (hb : U32 b) : RgU (backV a b) := by
  obtain ⟨a0, a1⟩ := ha
  obtain ⟨b0, b1⟩ := hb
  exact ⟨⟨by show 0 ≤ a / 4 * 4; omega, by show a / 4 * 4 < _; omega⟩, ⟨by show 0 ≤ b / 4 * 4; omega, by show b / 4 * 4 < _; omega⟩⟩
theorem backV_good (a b : Int) : badV (backV a b) = false := by
  have h1 : a / 4 * 4 % 4 = 0 := by omega
  have h2 : b / 4 * 4 % 4 = 0 := by omega
  simp [badV, backV, h1, h2]
theorem backP_mem {zs : List Int} {k : Nat} {r : Rg} (h : r ∈ backP zs k) : ∃ i, r = backV (zs.getD (2 * i) 0) (zs.getD (2 * i + 1) 0) := by
  obtain ⟨i, _, rfl⟩ := List.mem_map.1 h
  exact ⟨i, rfl⟩
theorem getD_u {zs : List Int} (hz : ∀ z ∈ zs, U32 z) (i : Nat) : U32 (zs.getD i 0) := by
  rw [List.getD_eq_getElem?_getD]
  cases hi : zs[i]? with
  | none => simp [U32]
  | some z => simpa using hz z (List.mem_of_getElem? hi)
theorem backP_u {zs : List Int} (hz : ∀ z ∈ zs, U32 z) (k : Nat) : ∀ r ∈ backP zs k, RgU r := by
  intro r hr
  obtain ⟨i, rfl⟩ := backP_mem hr
  exact backV_u (getD_u hz _) (getD_u hz _)
theorem putE_back (zs : List Int) {k : Nat} (hk : k ≤ 8) : putE (backP zs k) = 0 := by
  refine putE_good (by rw [backP_len]; exact hk) fun i hi => ?_
  have : rgAt (backP zs k) i ∈ backP zs k := by
    unfold rgAt
    rw [List.getD_eq_getElem?_getD, List.getElem?_eq_getElem hi]
    exact List.getElem_mem _
  obtain ⟨j, e⟩ := backP_mem this
  rw [e]
  exact backV_good _ _

/-- A region that may be is the region of its two words. -/
theorem pair_hi {r : Rg} (hb : badV r = false) : pairV r.lo (hiV r) = r := by
  obtain ⟨lo, hi, x, y⟩ := r
  simp only [badV, Bool.or_eq_false_iff, decide_eq_false_iff_not, ne_eq, Decidable.not_not] at hb
  obtain ⟨h1, h2⟩ := hb
  have e1 : lo / 4 * 4 = lo := by omega
  unfold pairV hiV
  simp only
  cases x <;> cases y
  · have e2 : (hi + (if false = true then 1 else 0) + (if false = true then 2 else 0) : Int) = hi := by simp
    have e3 : hi / 4 * 4 = hi := by omega
    have e4 : hi % 2 = 0 := by omega
    have e5 : hi / 2 % 2 = 0 := by omega
    rw [e2, e1, e3, e4, e5]; rfl
  · have e2 : (hi + (if false = true then 1 else 0) + (if true = true then 2 else 0) : Int) = hi + 2 := by simp
    have e3 : (hi + 2) / 4 * 4 = hi := by omega
    have e4 : (hi + 2) % 2 = 0 := by omega
    have e5 : (hi + 2) / 2 % 2 = 1 := by omega
    rw [e2, e1, e3, e4, e5]; rfl
  · have e2 : (hi + (if true = true then 1 else 0) + (if false = true then 2 else 0) : Int) = hi + 1 := by simp
    have e3 : (hi + 1) / 4 * 4 = hi := by omega
    have e4 : (hi + 1) % 2 = 1 := by omega
    have e5 : (hi + 1) / 2 % 2 = 0 := by omega
    rw [e2, e1, e3, e4, e5]; rfl
  · have e2 : (hi + (if true = true then 1 else 0) + (if true = true then 2 else 0) : Int) = hi + 3 := by simp; omega
    have e3 : (hi + 3) / 4 * 4 = hi := by omega
    have e4 : (hi + 3) % 2 = 1 := by omega
    have e5 : (hi + 3) / 2 % 2 = 1 := by omega
    rw [e2, e1, e3, e4, e5]; rfl
def zeroR : Rg := ⟨0, 0, false, false⟩
theorem rgAt_of (ws : Nat → Int) (i : Nat) (h : i < 8) : rgAt (ofV ws) i = pairV (ws (2 * i)) (ws (2 * i + 1)) := by
  unfold rgAt ofV
  simp [h]
theorem of_put {l : List Rg} (h8 : l.length ≤ 8) (hb : ∀ i, i < l.length → badV (rgAt l i) = false) (i : Nat) (hi : i < 8) : rgAt (ofV (putW l)) i = if i < l.length then rgAt l i else zeroR := by
  have e := putE_good h8 hb
  rw [rgAt_of _ _ hi]
  unfold putW
  rw [if_pos e, if_pos e]
  unfold putAt
  rw [show 2 * i / 2 = i by omega, show (2 * i + 1) / 2 = i by omega, show 2 * i % 2 = 0 by omega, show (2 * i + 1) % 2 = 1 by omega]
  by_cases h : i < l.length
  · rw [if_pos h, if_pos h, if_pos h, if_pos rfl, if_neg (by decide)]
    exact pair_hi (hb i h)
  · rw [if_neg h, if_neg h, if_neg h]
    rfl
theorem hiV_u {r : Rg} (hu : RgU r) (hb : badV r = false) : U32 (hiV r) := by
  obtain ⟨lo, hi, x, y⟩ := r
  simp only [badV, Bool.or_eq_false_iff, decide_eq_false_iff_not, ne_eq, Decidable.not_not] at hb
  obtain ⟨_, h2⟩ := hb
  obtain ⟨_, g0, g1⟩ := hu
  simp only at g0 g1
  unfold hiV U32
  cases x <;> cases y <;> simp <;> omega
theorem putW_u {l : List Rg} (hu : ∀ r ∈ l, RgU r) (j : Nat) : U32 (putW l j) := by
  unfold putW
  split
  · rename_i h0
    unfold putAt
    split
    · rename_i hj
      have hbad : badV (rgAt l (j / 2)) = false := by
        cases hb : badV (rgAt l (j / 2)) with
        | false => rfl
        | true =>
          unfold putE at h0
          split at h0
          · cases h0
          · rw [if_pos (any_at hj hb)] at h0
            cases h0
      split
      · exact (rgAt_u hu _).1
      · exact hiV_u (rgAt_u hu _) hbad
    · simp [U32]
  · simp [U32]
theorem pairV_u {a b : Int} (ha : U32 a) (hb : U32 b) : RgU (pairV a b) := by
  obtain ⟨a0, a1⟩ := ha
  obtain ⟨b0, b1⟩ := hb
  exact ⟨⟨by show 0 ≤ a / 4 * 4; omega, by show a / 4 * 4 < _; omega⟩, ⟨by show 0 ≤ b / 4 * 4; omega, by show b / 4 * 4 < _; omega⟩⟩
theorem ofV_u {ws : Nat → Int} (h : ∀ i, U32 (ws i)) : ∀ r ∈ ofV ws, RgU r := by
  intro r hr
  obtain ⟨i, _, rfl⟩ := List.mem_map.1 hr
  exact pairV_u (h _) (h _)
theorem zeroR_u : RgU zeroR := ⟨⟨by decide, by decide⟩, ⟨by decide, by decide⟩⟩
end Go.Proofs.Ytioppnlojlecaaa
