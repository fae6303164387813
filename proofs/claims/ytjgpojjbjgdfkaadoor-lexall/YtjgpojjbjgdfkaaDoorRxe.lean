/-
  footmanref10: number: when a number is in hex digits.
-/
import Derived.Test.YtjgpojjbjgdfkaaDoorRxd
namespace Go.Proofs.YtjgpojjbjgdfkaaDoor
open Go.RowKit

theorem ext_two {S : ByteArray} {p q : Nat} (h : p + 2 ≤ q) (hq : q ≤ S.size) : ∃ a b : UInt8, ∃ r, (S.extract p q).data.toList = a :: b :: r ∧ (a.toNat : Int) = byteV S p ∧ (b.toNat : Int) = byteV S (p + 1) ∧ (q = p + 2 → r = []) := by
  obtain ⟨a, ha, e1⟩ := ext_drop (S := S) (d := p) (q := q) (k := p) (Nat.le_refl _) (by omega) hq
  obtain ⟨b, hb, e2⟩ := ext_drop (S := S) (d := p) (q := q) (k := p + 1) (by omega) (by omega) hq
  rw [Nat.sub_self, List.drop_zero] at e1
  refine ⟨a, b, _, by rw [e1, e2], ha, hb, fun e => ?_⟩
  have := ext_end (S := S) (d := p) (q := q)
  rw [show q - p = p + 1 + 1 - p by omega] at this
  exact this
theorem u8_lit {c : UInt8} {n : Nat} (h : n < 256) : (c == UInt8.ofNat n) = decide ((c.toNat : Int) = n) := by
  rw [Bool.eq_iff_iff]
  simp only [beq_iff_eq, decide_eq_true_eq]
  constructor
  · rintro rfl
    simp
    omega
  · intro e
    apply UInt8.toNat_inj.1
    simp
    omega
theorem hexX_bytes {S : ByteArray} {p : Nat} (h : p + 2 ≤ S.size) : hexX S p = (decide (byteV S p = 48) && decide (byteV S (p + 1) = 120)) := by
  obtain ⟨a, b, r, e, ha, hb, _⟩ := ext_two h (Nat.le_refl _)
  unfold hexX Lib.hasPrefix
  rw [e, ← ha, ← hb]
  have h1 := u8_lit (c := a) (n := 48) (by omega)
  have h2 := u8_lit (c := b) (n := 120) (by omega)
  have c1 : ((48 : UInt8) == a) = (a == UInt8.ofNat 48) := by
    rw [Bool.eq_iff_iff]
    simp only [beq_iff_eq]
    exact eq_comm
  have c2 : ((120 : UInt8) == b) = (b == UInt8.ofNat 120) := by
    rw [Bool.eq_iff_iff]
    simp only [beq_iff_eq]
    exact eq_comm
  simp only [List.isPrefixOf, c1, c2, h1, h2, Bool.and_true]
  rfl
theorem two_bytes {S : ByteArray} {p : Nat} (h : p + 2 ≤ S.size) : ((S.extract p (p + 2)).data.toList == [48, 120]) = (decide (byteV S p = 48) && decide (byteV S (p + 1) = 120)) := by
  obtain ⟨a, b, r, e, ha, hb, hr⟩ := ext_two (q := p + 2) (Nat.le_refl _) h
  rw [e, hr rfl, ← ha, ← hb]
  have h1 := u8_lit (c := a) (n := 48) (by omega)
  have h2 := u8_lit (c := b) (n := 120) (by omega)
  have c1 : (a == (48 : UInt8)) = (a == UInt8.ofNat 48) := rfl
  have c2 : (b == (120 : UInt8)) = (b == UInt8.ofNat 120) := rfl
  show ((a == 48) && ((b == 120) && true)) = _
  rw [c1, c2, h1, h2, Bool.and_true]
  rfl
theorem hexN_iff {S : ByteArray} {p : Nat} : isHexN S p = (decide (p + 2 < S.size) && (decide (byteV S p = 48) && decide (byteV S (p + 1) = 120)) && bHex (byteV S (p + 2))) := by
  unfold isHexN
  by_cases h : p + 2 < S.size
  · rw [hexX_bytes (by omega), decide_eq_true h, Bool.true_and]
    congr 1
    unfold hexEnd
    cases hb : bHex (byteV S (p + 2)) with
    | true =>
      rw [show S.size - (p + 2) = (S.size - (p + 2) - 1) + 1 by omega]
      have := while_on (S := S) (g := bHex) (n := S.size - (p + 2) - 1) h hb
      exact decide_eq_true (by omega)
    | false =>
      have : whileV S bHex (S.size - (p + 2)) (p + 2) = p + 2 := by
        rw [show S.size - (p + 2) = (S.size - (p + 2) - 1) + 1 by omega]
        unfold whileV
        rw [hb, Bool.and_false]
        rfl
      rw [this]
      exact decide_eq_false (by omega)
  · rw [decide_eq_false h, Bool.false_and, Bool.false_and]
    cases hX : hexX S p with
    | false => rfl
    | true =>
      have h2 := hexX_size hX
      have : hexEnd S p = p + 2 := by
        unfold hexEnd
        rw [show S.size - (p + 2) = 0 by omega]
        rfl
      rw [this]
      simp
end Go.Proofs.YtjgpojjbjgdfkaaDoor
