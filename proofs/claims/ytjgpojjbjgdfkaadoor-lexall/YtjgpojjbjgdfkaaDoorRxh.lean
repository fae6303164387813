/-
  footmanref10: the sign at a place: plain facts.
-/
import Derived.Test.YtjgpojjbjgdfkaaDoorRxs
namespace Go.Proofs.YtjgpojjbjgdfkaaDoor
open Go.RowKit

/-- The document's signs: the first byte, the second one, how many. -/
def sgD : List (Int × Int × Nat) := [(61, 61, 2), (33, 61, 2), (60, 61, 2), (62, 61, 2), (60, 60, 2), (62, 62, 2), (123, 0, 1), (125, 0, 1), (40, 0, 1), (41, 0, 1), (91, 0, 1), (93, 0, 1), (59, 0, 1), (44, 0, 1), (61, 0, 1), (60, 0, 1), (62, 0, 1), (43, 0, 1), (45, 0, 1), (42, 0, 1), (47, 0, 1), (37, 0, 1), (38, 0, 1), (94, 0, 1), (124, 0, 1), (126, 0, 1)]
def matB (a b : Int) (x : Int × Int × Nat) : Bool := x.1 == a && (x.2.2 == 1 || x.2.1 == b)
def dN (a b : Int) : Int := ((sgD.find? (matB a b)).map fun x => (x.2.2 : Int)).getD 0
def sN (a b : Int) : Int := match signV a b with | some n => n | none => (signV a 0).getD 0
def firsts : List Int := [61, 33, 60, 62, 123, 125, 40, 41, 91, 93, 59, 44, 43, 45, 42, 47, 37, 38, 94, 124, 126]
def seconds : List Int := [0, 60, 61, 62]
def norm (L : List Int) (d c : Int) : Int := if c ∈ L then c else d
theorem norm_eq {L : List Int} {d c z : Int} (hd : d ∉ L) (hz : z ∈ L) : (z == c) = (z == norm L d c) := by
  unfold norm
  split
  · rfl
  · rename_i h
    have h1 : (z == c) = false := by
      rw [beq_eq_false_iff_ne]
      rintro rfl
      exact h hz
    have h2 : (z == d) = false := by
      rw [beq_eq_false_iff_ne]
      rintro rfl
      exact hd hz
    rw [h1, h2]
theorem find_congr {α : Type} {p q : α → Bool} : ∀ {l : List α}, (∀ x ∈ l, p x = q x) → l.find? p = l.find? q
  | [], _ => rfl
  | x :: l, h => by
    rw [List.find?_cons, List.find?_cons, h x (by simp), find_congr (l := l) (fun y hy => h y (by simp [hy]))]
theorem signV_norm (a b : Int) : signV a b = signV (norm firsts 2 a) (norm seconds 1 b) := by
  unfold signV sgIdx
  congr 1
  refine find_congr fun x hx => ?_
  have h : ∀ x ∈ sgT, x.2.1 ∈ firsts ∧ x.2.2.1 ∈ seconds := by decide
  obtain ⟨h1, h2⟩ := h x hx
  rw [norm_eq (d := 2) (by decide) h1, norm_eq (d := 1) (by decide) h2]
theorem sN_norm (a b : Int) : sN a b = sN (norm firsts 2 a) (norm seconds 1 b) := by
  unfold sN
  rw [signV_norm a b]
  have := signV_norm a 0
  rw [show norm seconds 1 0 = 0 by decide] at this
  rw [this]
theorem dN_norm (a b : Int) : dN a b = dN (norm firsts 2 a) (norm seconds 1 b) := by
  unfold dN
  congr 2
  refine find_congr fun x hx => ?_
  have h : ∀ x ∈ sgD, x.1 ∈ firsts ∧ x.2.1 ∈ seconds := by decide
  obtain ⟨h1, h2⟩ := h x hx
  unfold matB
  rw [norm_eq (d := 2) (by decide) h1, norm_eq (d := 1) (by decide) h2]
theorem norm_mem (L : List Int) (d c : Int) : norm L d c ∈ d :: L := by
  unfold norm
  split
  · rename_i h
    exact List.mem_cons_of_mem _ h
  · simp
set_option maxRecDepth 100000 in
theorem dN_sN (a b : Int) : dN a b = sN a b := by
  rw [dN_norm, sN_norm]
  have h : ∀ x ∈ 2 :: firsts, ∀ y ∈ 1 :: seconds, dN x y = sN x y := by decide
  exact h _ (norm_mem _ _ _) _ (norm_mem _ _ _)
theorem signN_sN (S : ByteArray) (p : Nat) : signN S p = sN (byteV S p) (byteV S (p + 1)) := rfl
def sgAt (k : Nat) : Int × Int × Nat := sgD.getD k (0, 0, 0)
theorem sg_none {a b : Int} (h : ∀ j, j < 26 → matB a b (sgAt j) = false) : sN a b = 0 := by
  rw [← dN_sN]
  unfold dN
  have : sgD.find? (matB a b) = none := by
    rw [List.find?_eq_none]
    intro x hx
    obtain ⟨j, hj, rfl⟩ := List.mem_iff_getElem.1 hx
    have := h j hj
    unfold sgAt at this
    rw [List.getD_eq_getElem?_getD, List.getElem?_eq_getElem hj] at this
    simpa using this
  rw [this]
  rfl
theorem sg_some {a b : Int} {k : Nat} (hk : k < 26) (h : ∀ j, j < k → matB a b (sgAt j) = false) (hm : matB a b (sgAt k) = true) : sN a b = (sgAt k).2.2 := by
  rw [← dN_sN]
  unfold dN
  have hl : k < sgD.length := hk
  have e : ∀ j (hj : j < sgD.length), sgAt j = sgD[j] := fun j hj => by
    unfold sgAt
    rw [List.getD_eq_getElem?_getD, List.getElem?_eq_getElem hj]
    rfl
  have : sgD.find? (matB a b) = some (sgAt k) := by
    rw [List.find?_eq_some_iff_getElem]
    refine ⟨hm, k, hl, (e k hl).symm, fun j hj => ?_⟩
    have := h j hj
    rw [e j (by omega)] at this
    simp [this]
  rw [this]
  rfl
/-- A sign's bytes. -/
theorem sgAt_list {k : Nat} (h : k < 26) : (sgAt k).2.2 = (signS k).size ∧ ((sgAt k).2.2 = 1 ∧ (∃ c : UInt8, (signS k).data.toList = [c] ∧ (c.toNat : Int) = (sgAt k).1) ∨ (sgAt k).2.2 = 2 ∧ (∃ c d : UInt8, (signS k).data.toList = [c, d] ∧ (c.toNat : Int) = (sgAt k).1 ∧ (d.toNat : Int) = (sgAt k).2.1) ∧ (sgAt k).2.1 ≠ 0) := by
  have h0 : ∀ k : Fin 26, (sgAt k.val).2.2 = (signS k.val).size := by decide
  have h1 : ∀ k, k < 26 → (sgAt k).2.2 = 1 ∧ (∃ c : UInt8, (signS k).data.toList = [c] ∧ (c.toNat : Int) = (sgAt k).1) ∨ (sgAt k).2.2 = 2 ∧ (∃ c d : UInt8, (signS k).data.toList = [c, d] ∧ (c.toNat : Int) = (sgAt k).1 ∧ (d.toNat : Int) = (sgAt k).2.1) ∧ (sgAt k).2.1 ≠ 0 := by
    intro k hk
    rcases (by omega : k < 6 ∨ 6 ≤ k) with h6 | h6
    · refine Or.inr ?_
      rcases (by omega : k = 0 ∨ k = 1 ∨ k = 2 ∨ k = 3 ∨ k = 4 ∨ k = 5) with rfl | rfl | rfl | rfl | rfl | rfl <;> exact ⟨rfl, ⟨_, _, rfl, rfl, rfl⟩, by decide⟩
    · refine Or.inl ?_
      rcases (by omega : k = 6 ∨ k = 7 ∨ k = 8 ∨ k = 9 ∨ k = 10 ∨ k = 11 ∨ k = 12 ∨ k = 13 ∨ k = 14 ∨ k = 15 ∨ k = 16 ∨ k = 17 ∨ k = 18 ∨ k = 19 ∨ k = 20 ∨ k = 21 ∨ k = 22 ∨ k = 23 ∨ k = 24 ∨ k = 25) with rfl | rfl | rfl | rfl | rfl | rfl | rfl | rfl | rfl | rfl | rfl | rfl | rfl | rfl | rfl | rfl | rfl | rfl | rfl | rfl <;> exact ⟨rfl, _, rfl, rfl⟩
  exact ⟨h0 ⟨k, h⟩, h1 k h⟩
theorem u8_eq {c d : UInt8} : (c == d) = ((c.toNat : Int) == (d.toNat : Int)) := by
  rw [Bool.eq_iff_iff]
  simp only [beq_iff_eq]
  constructor
  · rintro rfl
    rfl
  · intro e
    exact UInt8.toNat_inj.1 (by omega)
/-- Does the sign stand there? -/
theorem sign_there {S : ByteArray} {q k : Nat} (hq : q < S.size) (hk : k < 26) : matB (byteV S q) (byteV S (q + 1)) (sgAt k) = (decide ((signS k).size ≤ S.size - q) && ((S.extract q (q + (signS k).size)).toList == (signS k).toList)) := by
  obtain ⟨h0, h1⟩ := sgAt_list hk
  rw [ByteArray.toList_eq, ByteArray.toList_eq, ← h0]
  unfold matB
  rcases h1 with ⟨e1, c, e2, e3⟩ | ⟨e1, ⟨c, d, e2, e3, e4⟩, e5⟩
  · rw [e1, e2, decide_eq_true (by omega)]
    obtain ⟨x, hx, hd⟩ := ext_drop (S := S) (d := q) (q := q + 1) (k := q) (Nat.le_refl _) (by omega) (by omega)
    rw [ext_end, Nat.sub_self, List.drop_zero] at hd
    rw [hd, ← hx, ← e3]
    show ((c.toNat : Int) == x.toNat && true) = (true && ((x == c) && true))
    rw [u8_eq, Bool.and_true, Bool.and_true, Bool.true_and]
    exact BEq.comm
  · rw [e1, e2]
    by_cases h2 : q + 2 ≤ S.size
    · rw [decide_eq_true (by omega)]
      obtain ⟨x, y, r, hd, hx, hy, hr⟩ := ext_two (S := S) (p := q) (q := q + 2) (Nat.le_refl _) h2
      rw [hd, hr rfl, ← hx, ← hy, ← e3, ← e4]
      show ((c.toNat : Int) == x.toNat && (false || (d.toNat : Int) == y.toNat)) = (true && ((x == c) && ((y == d) && true)))
      rw [u8_eq, u8_eq, Bool.false_or, Bool.true_and, Bool.and_true]
      congr 1 <;> exact BEq.comm
    · have h3 : byteV S (q + 1) = 0 := by
        unfold byteV
        rw [dif_neg (by omega)]
      rw [decide_eq_false (by omega), h3, Bool.false_and]
      have : ((sgAt k).2.1 == 0) = false := by rw [beq_eq_false_iff_ne]; exact e5
      rw [this]
      simp
end Go.Proofs.YtjgpojjbjgdfkaaDoor
