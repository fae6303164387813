/-
  footmanref10: number: plain facts.
-/
import Derived.Test.YtjgpojjbjgdfkaaDoorRxc
namespace Go.Proofs.YtjgpojjbjgdfkaaDoor
open Go.RowKit

/-- The number of digits at a base, held at 2^32. -/
def satM (b : Nat) : Nat → List UInt8 → Nat
  | acc, [] => acc
  | acc, c :: l => satM b (min (acc * b + hexD c.toNat) 4294967296) l
theorem sat_top {b : Nat} (hb : 0 < b) : ∀ l : List UInt8, satM b 4294967296 l = 4294967296
  | [] => rfl
  | c :: l => by
    have h : min (4294967296 * b + hexD c.toNat) 4294967296 = 4294967296 := by
      have : 4294967296 * 1 ≤ 4294967296 * b := Nat.mul_le_mul_left _ hb
      omega
    rw [satM, h]
    exact sat_top hb l
theorem sat_num {b : Nat} (hb : 0 < b) : ∀ (l : List UInt8) (acc : Nat), acc ≤ 4294967295 → satM b acc l = match numM b acc l with | some u => u | none => 4294967296
  | [], _, _ => rfl
  | c :: l, acc, h => by
    rw [satM, numM]
    by_cases ho : 4294967295 < acc * b + hexD c.toNat
    · rw [if_pos ho, show min (acc * b + hexD c.toNat) 4294967296 = 4294967296 by omega]
      exact sat_top hb l
    · rw [if_neg ho, show min (acc * b + hexD c.toNat) 4294967296 = acc * b + hexD c.toNat by omega]
      exact sat_num hb l _ (by omega)
theorem hexI_D {c : UInt8} (h : bHex (c.toNat : Int) = true) : hexI (c.toNat : Int) = hexD c.toNat := by
  unfold bHex at h
  unfold hexI hexD
  cases hd : bDigit (c.toNat : Int) with
  | true =>
    unfold bDigit at hd
    simp only [Bool.and_eq_true, decide_eq_true_eq] at hd
    rw [if_pos rfl, if_pos (by omega)]
    omega
  | false =>
    rw [hd] at h
    simp only [Bool.false_or, Bool.and_eq_true, decide_eq_true_eq] at h
    rw [if_neg Bool.false_ne_true, if_pos h, if_neg (by omega)]
    omega
theorem digit_hex {c : Int} (h : bDigit c = true) : bHex c = true := by
  unfold bHex
  rw [h]
  rfl
/-- What stands at a place of a cut. -/
theorem ext_drop {S : ByteArray} {d q k : Nat} (hd : d ≤ k) (hk : k < q) (hq : q ≤ S.size) : ∃ c : UInt8, (c.toNat : Int) = byteV S k ∧ (S.extract d q).data.toList.drop (k - d) = c :: (S.extract d q).data.toList.drop (k + 1 - d) := by
  have hs : S.data.size = S.size := rfl
  have hl : k - d < (S.extract d q).data.toList.length := by
    rw [ByteArray.data_extract]
    simp
    omega
  refine ⟨(S.extract d q).data.toList[k - d], ?_, ?_⟩
  · rw [← byteV_at (S := S) (k := k) (by omega)]
    congr 1
    simp only [ByteArray.data_extract, Array.getElem_toList, Array.getElem_extract]
    have : d + (k - d) = k := by omega
    simp only [this]
    rfl
  · rw [show k + 1 - d = k - d + 1 by omega]
    exact List.drop_eq_getElem_cons hl
theorem ext_end {S : ByteArray} {d q : Nat} : (S.extract d q).data.toList.drop (q - d) = [] := by
  refine List.drop_eq_nil_of_le ?_
  rw [ByteArray.data_extract]
  simp
  omega
end Go.Proofs.YtjgpojjbjgdfkaaDoor
