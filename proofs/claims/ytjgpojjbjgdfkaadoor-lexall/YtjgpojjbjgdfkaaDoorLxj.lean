/-
  Package lex: a number's digits: plain facts; ParseUint at both bases.
-/
import Derived.Test.YtjgpojjbjgdfkaaDoorLxi
namespace Go.Proofs.YtjgpojjbjgdfkaaDoor
open Go.RowKit

/-- The number of digits at a base, or none if no 32 bits hold it. -/
def numM (b : Nat) : Nat → List UInt8 → Option Nat
  | acc, [] => some acc
  | acc, c :: l => if 4294967295 < acc * b + hexD c.toNat then none else numM b (acc * b + hexD c.toNat) l
theorem num16 : ∀ (l : List UInt8) (acc : Nat), numM 16 acc l = hexM acc l
  | [], _ => rfl
  | c :: l, acc => by
    rw [numM, hexM, num16 l]
theorem num10 : ∀ (l : List UInt8) (acc : Nat), acc ≤ 4294967295 → (∀ c ∈ l, 48 ≤ c.toNat ∧ c.toNat ≤ 57) → Lib.parseUintM 4294967295 acc l = match numM 10 acc l with | some u => .ok u | none => .range
  | [], _, _, _ => rfl
  | c :: l, acc, ha, h => by
    have hc := h c (by simp)
    have hD : hexD c.toNat = c.toNat - 48 := if_pos hc.2
    rw [Lib.parseUintM, numM, if_pos hc, if_neg (by omega), hD]
    by_cases ho : 4294967295 < acc * 10 + (c.toNat - 48)
    · rw [if_pos ho, if_pos ho]
    · rw [if_neg ho, if_neg ho]
      exact num10 l _ (by omega) (fun c hc => h c (by simp [hc]))
/-- All bytes are digits of the base. -/
def DigOk (b : Nat) (l : List UInt8) : Prop := (b = 10 ∧ ∀ c ∈ l, 48 ≤ c.toNat ∧ c.toNat ≤ 57) ∨ (b = 16 ∧ ∀ c ∈ l, hexOk c.toNat)
theorem ne_nil_of_size {t : ByteArray} (h : t.size ≠ 0) : t.data.toList ≠ [] := fun e => h (by
  have := Lib.size_eq t
  rw [e] at this
  exact this)
theorem puOk {b : Nat} (t : ByteArray) (hne : t.size ≠ 0) (hmax : t.size ≤ 281474976710656) (hd : DigOk b t.data.toList) {u : Nat} (hu : numM b 0 t.data.toList = some u) (w : World) :
    Calls Tryd.prog 40 #[.string t, .int .i64 b, .int .i64 32] w fun e w' => e = .returned (.tuple #[.int .u64 u, .nilIface]) ∧ Below w.heap.size w w' := by
  rcases hd with ⟨rfl, h⟩ | ⟨rfl, h⟩
  · have hp := num10 _ 0 (by omega) h
    rw [hu] at hp
    have hq : Lib.parseUintB 32 t.data.toList = .ok u := by
      unfold Lib.parseUintB
      rw [if_neg (ne_nil_of_size hne)]
      exact hp
    refine Calls.mono (Tryd.strconv_ParseUint_10_at32_ok t (by omega) u hq w) ?_
    rintro e w1 ⟨rfl, h1⟩
    refine ⟨rfl, ?_⟩
    rcases h1 with rfl | rfl
    · exact Below.refl _ _
    · exact Lib.bytesWorld_below _ _ _
  · rw [num16] at hu
    exact puHexOk t hne hmax h hu w
theorem puRange {b : Nat} (t : ByteArray) (hne : t.size ≠ 0) (hmax : t.size ≤ 281474976710656) (hd : DigOk b t.data.toList) (hu : numM b 0 t.data.toList = none) (w : World) (ev : Value) (hv : w.cell? ⟨1, 0, none⟩ = some ev) (hev : ev = .nilIface ∨ ∃ te pe, ev = .iface te pe) :
    Calls Tryd.prog 40 #[.string t, .int .i64 b, .int .i64 32] w fun e w' => ∃ N, e = .returned (.tuple #[.int .u64 4294967295, .iface 71 (.pointer (some ⟨N, 0, none⟩))]) ∧ Below w.heap.size w w' := by
  rcases hd with ⟨rfl, h⟩ | ⟨rfl, h⟩
  · have hp := num10 _ 0 (by omega) h
    rw [hu] at hp
    have hq : Lib.parseUintB 32 t.data.toList = .range := by
      unfold Lib.parseUintB
      rw [if_neg (ne_nil_of_size hne)]
      exact hp
    refine Calls.mono (Tryd.strconv_ParseUint_10_at32_range t hmax hq ev w hv hev) ?_
    rintro e w1 ⟨N, rfl, _, _, h1⟩
    exact ⟨N, rfl, h1⟩
  · rw [num16] at hu
    exact puHexRange t hne hmax h hu w ev hv hev
theorem num_le {b : Nat} : ∀ (l : List UInt8) (acc u : Nat), acc ≤ 4294967295 → numM b acc l = some u → u ≤ 4294967295
  | [], acc, u, h, e => by
    rw [numM] at e
    cases e
    exact h
  | c :: l, acc, u, h, e => by
    rw [numM] at e
    split at e
    · cases e
    · exact num_le l _ u (by omega) e
theorem while_all {S : ByteArray} {g : Int → Bool} : ∀ n p k, p ≤ k → k < whileV S g n p → g (byteV S k) = true
  | 0, p, k, h1, h2 => by
    unfold whileV at h2
    omega
  | n + 1, p, k, h1, h2 => by
    unfold whileV at h2
    split at h2
    · rename_i hc
      simp only [Bool.and_eq_true, decide_eq_true_eq] at hc
      by_cases hk : k = p
      · rw [hk]; exact hc.2
      · exact while_all n (p + 1) k (by omega) h2
    · omega
theorem mem_extract {S : ByteArray} {a b : Nat} (hb : b ≤ S.size) {c : UInt8} (h : c ∈ (S.extract a b).data.toList) : ∃ k, a ≤ k ∧ k < b ∧ (c.toNat : Int) = byteV S k := by
  rw [ByteArray.data_extract] at h
  obtain ⟨i, hi, e⟩ := List.getElem_of_mem h
  simp only [Array.length_toList, Array.size_extract] at hi
  have hs : S.data.size = S.size := rfl
  refine ⟨a + i, by omega, by omega, ?_⟩
  rw [← byteV_at (S := S) (k := a + i) (by omega), ← e]
  simp
  rfl
theorem dig_of {S : ByteArray} {p q : Nat} (h : ∀ k, p ≤ k → k < q → bDigit (byteV S k) = true) (hq : q ≤ S.size) : DigOk 10 (S.extract p q).data.toList := by
  refine Or.inl ⟨rfl, fun c hc => ?_⟩
  obtain ⟨k, h1, h2, h3⟩ := mem_extract hq hc
  have := h k h1 h2
  unfold bDigit at this
  simp only [Bool.and_eq_true, decide_eq_true_eq] at this
  omega
theorem hex_of {S : ByteArray} {p q : Nat} (h : ∀ k, p ≤ k → k < q → bHex (byteV S k) = true) (hq : q ≤ S.size) : DigOk 16 (S.extract p q).data.toList := by
  refine Or.inr ⟨rfl, fun c hc => ?_⟩
  obtain ⟨k, h1, h2, h3⟩ := mem_extract hq hc
  have := h k h1 h2
  unfold bHex bDigit at this
  simp only [Bool.and_eq_true, Bool.or_eq_true, decide_eq_true_eq] at this
  unfold hexOk
  omega
end Go.Proofs.YtjgpojjbjgdfkaaDoor
