/-
  Numbers as texts: plain facts.
-/
import Derived.Test.YtjgpojjbjgdfkaaDoorLpa
import Derived.Laws.BytesArg
namespace Go.Proofs.YtjgpojjbjgdfkaaDoor
open Go.RowKit

/-- What digits tell, from what was there on. -/
def valM (b : Nat) : Nat → List UInt8 → Nat
  | acc, [] => acc
  | acc, c :: l => valM b (acc * b + hexD c.toNat) l
theorem valM_ge {b : Nat} (hb : 1 ≤ b) : ∀ (l : List UInt8) (acc : Nat), acc ≤ valM b acc l
  | [], acc => Nat.le_refl acc
  | c :: l, acc => by
    have h := valM_ge hb l (acc * b + hexD c.toNat)
    have : acc ≤ acc * b := Nat.le_mul_of_pos_right _ hb
    rw [valM]
    omega
theorem numM_val {b : Nat} (hb : 1 ≤ b) : ∀ (l : List UInt8) (acc : Nat), acc ≤ 4294967295 → numM b acc l = if valM b acc l ≤ 4294967295 then some (valM b acc l) else none
  | [], acc, h => by
    rw [numM, valM, if_pos h]
  | c :: l, acc, h => by
    rw [numM, valM]
    by_cases hc : 4294967295 < acc * b + hexD c.toNat
    · have := valM_ge hb l (acc * b + hexD c.toNat)
      rw [if_pos hc, if_neg (by omega)]
    · rw [if_neg hc]
      exact numM_val hb l _ (by omega)
/-- While a number's digits are written down, from the last one on. -/
structure DigSt (b : Nat) (g : Int → Bool) (M k : Nat) (t : ByteArray) : Prop where
  val : valM b k t.data.toList = M
  dig : ∀ c ∈ t.data.toList, g (c.toNat : Int) = true
  small : t.size ≤ 64
  fits : k < 2 ^ (64 - t.size)
theorem dig_none {b M : Nat} {g : Int → Bool} (h : M ≤ 18446744073709551615) : DigSt b g M M ⟨#[]⟩ :=
  ⟨rfl, fun c hc => (by cases hc), by decide, by show M < 2 ^ 64; omega⟩
theorem one_data (c : Int) : (strOfNums [c]).data.toList = [UInt8.ofNat c.toNat] := rfl
theorem one_size (c : Int) : (strOfNums [c]).size = 1 := rfl
theorem dig_step {b M k : Nat} {g : Int → Bool} {t : ByteArray} (h : DigSt b g M k t) (hb : 2 ≤ b) (c : Int) (h0 : 0 ≤ c ∧ c ≤ 255) (hg : g c = true) (hc : hexD c.toNat = k % b) (hk : 0 < k ∨ t.size = 0) : DigSt b g M (k / b) (strOfNums [c] ++ t) := by
  have hs : t.size ≤ 63 := by
    rcases hk with h1 | h1
    · have := h.fits
      have hsm := h.small
      rcases Nat.lt_or_ge t.size 64 with h2 | h2
      · omega
      · rw [show 64 - t.size = 0 by omega] at this
        omega
    · omega
  have hu : (UInt8.ofNat c.toNat).toNat = c.toNat := by
    rw [UInt8.toNat_ofNat']
    exact Nat.mod_eq_of_lt (by omega)
  have hl : (strOfNums [c] ++ t).data.toList = UInt8.ofNat c.toNat :: t.data.toList := by
    rw [ByteArray.data_append, Array.toList_append, one_data]
    rfl
  refine ⟨?_, fun x hx => ?_, ?_, ?_⟩
  · rw [hl, valM, hu, hc, Nat.div_add_mod']
    exact h.val
  · rw [hl] at hx
    rcases List.mem_cons.1 hx with rfl | hx
    · rw [hu, show ((c.toNat : Nat) : Int) = c by omega]
      exact hg
    · exact h.dig x hx
  · rw [ByteArray.size_append, one_size]
    omega
  · rw [ByteArray.size_append, one_size]
    have h1 := h.fits
    rw [show 64 - t.size = (64 - (1 + t.size)) + 1 by omega, Nat.pow_succ] at h1
    have h2 : k / b ≤ k / 2 := Nat.div_le_div_left hb (by decide)
    omega
theorem dig_val {b M : Nat} {g : Int → Bool} {t : ByteArray} (h : DigSt b g M 0 t) : valM b 0 t.data.toList = M := h.val
theorem byte_all {t : ByteArray} {g : Int → Bool} (h : ∀ c ∈ t.data.toList, g (c.toNat : Int) = true) {k : Nat} (hk : k < t.size) : g (byteV t k) = true := by
  unfold byteV
  rw [dif_pos hk]
  refine h _ ?_
  show t.data[k] ∈ t.data.toList
  exact Array.mem_toList_iff.2 (Array.getElem_mem hk)
theorem bDigit_iff {c : Int} : bDigit c = true ↔ 48 ≤ c ∧ c ≤ 57 := by
  unfold bDigit
  simp
theorem skip_digit {S : ByteArray} {n : Nat} (h : 0 < S.size) (hd : bDigit (byteV S 0) = true) : skipV S n 0 = 0 := by
  cases n with
  | zero => rfl
  | succ n =>
    have hr := bDigit_iff.1 hd
    rw [skipV, if_pos h]
    rw [if_neg (by unfold bBlank; simp; omega), if_neg (by simp; omega)]
theorem next_digit {S : ByteArray} (h : 0 < S.size) (hd : bDigit (byteV S 0) = true) : nextT S 0 = ((numT S 0).1, (numT S 0).2.1, (numT S 0).2.2.1, 0, (numT S 0).2.2.2) := by
  unfold nextT
  rw [skip_digit h hd, if_neg (by omega), if_pos hd]
theorem hexX_byte {S : ByteArray} (h : hexX S 0 = true) : 2 ≤ S.size ∧ byteV S 1 = 120 := by
  unfold hexX Lib.hasPrefix at h
  rw [ByteArray.extract_zero_size] at h
  obtain ⟨r, hr⟩ := List.isPrefixOf_iff_prefix.1 h
  have hsz := Lib.size_eq S
  have h2 : 2 ≤ S.size := by
    rw [hsz, ← hr]
    simp
  refine ⟨h2, ?_⟩
  unfold byteV
  rw [dif_pos (by omega)]
  have : S.data.toList[1]? = some 120 := by rw [← hr]; rfl
  have h3 : S.data.toList[1]? = some S.data[1] := by
    rw [Array.getElem?_toList]
    exact Array.getElem?_eq_getElem _
  have h4 : S.data[1] = 120 := Option.some.inj (h3.symm.trans this)
  show (((S.data[1]).toNat : Nat) : Int) = 120
  rw [h4]
  rfl
theorem numW_val {S : ByteArray} {p d b q : Nat} (hb : 1 ≤ b) {M : Nat} (hM : valM b 0 (S.extract d q).data.toList = M) : numW S p d b q = if M ≤ 4294967295 then (if q < whileV S bInName (S.size - q) q then ((5 : Int), (⟨#[]⟩ : ByteArray), (0 : Int), whileV S bInName (S.size - q) q) else (1, S.extract p q, (M : Int), q)) else (5, ⟨#[]⟩, 0, whileV S bInName (S.size - q) q) := by
  unfold numW
  rw [numM_val hb _ _ (by decide), hM]
  by_cases h : M ≤ 4294967295
  · rw [if_pos h, if_pos h]
  · rw [if_neg h, if_neg h]
theorem clamp_zero (X : ByteArray) : clampV X 0 = 0 := by
  show (min (max 0 0) (X.size : Int)).toNat = 0
  omega
/-- A number alone. -/
theorem num_alone {M : Nat} {t : ByteArray} (h : DigSt 10 bDigit M 0 t) (hn : 0 < t.size) : ∃ E, nextT t (clampV t 0) = if M ≤ 4294967295 then (1, t, (M : Int), 0, E) else (5, ⟨#[]⟩, 0, 0, E) := by
  have hd := fun k (hk : k < t.size) => byte_all h.dig hk
  have hx : isHexN t 0 = false := by
    unfold isHexN
    cases hh : hexX t 0 with
    | false => rfl
    | true =>
      obtain ⟨h2, h3⟩ := hexX_byte hh
      have := bDigit_iff.1 (hd 1 (by omega))
      omega
  have hw : whileV t bDigit (t.size - 0) 0 = t.size := while_at (Nat.le_refl _) (fun h => absurd h (Nat.lt_irrefl _)) _ 0 (Nat.zero_le _) (by omega) (fun k _ hk => hd k hk)
  refine ⟨(numT t 0).2.2.2, ?_⟩
  rw [clamp_zero, next_digit hn (hd 0 hn)]
  unfold numT
  rw [hx, if_neg (by decide), hw, numW_val (by decide) (M := M) (by rw [ByteArray.extract_zero_size]; exact h.val)]
  have h0 : whileV t bInName (t.size - t.size) t.size = t.size := by rw [Nat.sub_self]; rfl
  rw [h0, if_neg (Nat.lt_irrefl _), ByteArray.extract_zero_size]
  split <;> rfl
/-- A number with a byte behind it that is no digit. -/
theorem num_byte {M : Nat} {t : ByteArray} (h : DigSt 10 bDigit M 0 t) (hn : 0 < t.size) {c : Int} (hc : 0 ≤ c ∧ c ≤ 255) (hcd : bDigit c = false) : ∃ K T N A E, nextT (t ++ strOfNums [c]) (clampV (t ++ strOfNums [c]) 0) = (K, T, N, A, E) ∧ (K = 1 ↔ M ≤ 4294967295 ∧ bLetter c = false) := by
  have hs : (t ++ strOfNums [c]).size = t.size + 1 := by rw [ByteArray.size_append, one_size]
  have hd : ∀ k, k < t.size → bDigit (byteV (t ++ strOfNums [c]) k) = true := fun k hk => by rw [byte_left hk]; exact byte_all h.dig hk
  have hcv : byteV (t ++ strOfNums [c]) t.size = c := by
    have := byte_right (A := t) (S := strOfNums [c]) 0
    rw [Nat.add_zero] at this
    rw [this]
    show (((UInt8.ofNat c.toNat).toNat : Nat) : Int) = c
    rw [UInt8.toNat_ofNat', Nat.mod_eq_of_lt (by omega)]
    omega
  have hx : isHexN (t ++ strOfNums [c]) 0 = false := by
    unfold isHexN
    cases hh : hexX (t ++ strOfNums [c]) 0 with
    | false => rfl
    | true =>
      obtain ⟨h2, h3⟩ := hexX_byte hh
      rcases Nat.lt_or_ge 1 t.size with h1 | h1
      · have := bDigit_iff.1 (hd 1 h1)
        omega
      · have h4 : hexEnd (t ++ strOfNums [c]) 0 ≤ (t ++ strOfNums [c]).size := by
          unfold hexEnd
          exact while_le _ _ (by omega)
        rw [decide_eq_false (by omega)]
        rfl
  have hw : whileV (t ++ strOfNums [c]) bDigit ((t ++ strOfNums [c]).size - 0) 0 = t.size := while_at (by omega) (fun _ => by rw [hcv]; exact hcd) _ 0 (Nat.zero_le _) (by omega) (fun k _ hk => hd k hk)
  have he : (t ++ strOfNums [c]).extract 0 t.size = t := ByteArray.extract_append_eq_left rfl
  have hi : whileV (t ++ strOfNums [c]) bInName ((t ++ strOfNums [c]).size - t.size) t.size = if bLetter c then t.size + 1 else t.size := by
    rw [show (t ++ strOfNums [c]).size - t.size = 0 + 1 by omega, whileV, hcv]
    have : bInName c = bLetter c := by unfold bInName; rw [hcd, Bool.or_false]
    rw [this, decide_eq_true (by omega), Bool.true_and]
    rfl
  refine ⟨_, _, _, _, _, by rw [clamp_zero, next_digit (by omega) (hd 0 hn)], ?_⟩
  unfold numT
  rw [hx, if_neg (by decide), hw, numW_val (by decide) (M := M) (by rw [he]; exact h.val), hi]
  by_cases h1 : M ≤ 4294967295
  · rw [if_pos h1]
    cases hl : bLetter c with
    | true =>
      rw [if_pos rfl, if_pos (by omega)]
      simp
    | false =>
      rw [if_neg (show ¬ t.size < (if false = true then t.size + 1 else t.size) by simp)]
      simp [h1]
  · rw [if_neg h1]
    simp [h1]
/-- A number told with sixteen digits, with a blank behind it. -/
theorem num_hex {M : Nat} {t : ByteArray} (h : DigSt 16 bHex M 0 t) (hn : 0 < t.size) : ∃ K T N A E, nextT ((⟨#[48, 120]⟩ ++ t) ++ ⟨#[32]⟩) (clampV ((⟨#[48, 120]⟩ ++ t) ++ ⟨#[32]⟩) 0) = (K, T, N, A, E) ∧ (K = 1 ↔ M ≤ 4294967295) ∧ (M ≤ 4294967295 → N = M) := by
  rw [ByteArray.append_assoc]
  obtain ⟨H, hH⟩ : ∃ H : ByteArray, H = ⟨#[48, 120]⟩ := ⟨_, rfl⟩
  obtain ⟨R, hR⟩ : ∃ R : ByteArray, R = t ++ ⟨#[32]⟩ := ⟨_, rfl⟩
  have h2 : H.size = 2 := by rw [hH]; rfl
  have hr : R.size = t.size + 1 := by rw [hR, ByteArray.size_append]; rfl
  rw [← hH, ← hR]
  have hs : (H ++ R).size = t.size + 3 := by rw [ByteArray.size_append, h2, hr]; omega
  have hd : ∀ k, k < t.size → bHex (byteV R k) = true := fun k hk => by rw [hR, byte_left hk]; exact byte_all h.dig hk
  have hsp : byteV R t.size = 32 := by
    have := byte_right (A := t) (S := ⟨#[32]⟩) 0
    rw [Nat.add_zero] at this
    rw [hR, this]
    rfl
  have h48 : byteV (H ++ R) 0 = 48 := by rw [byte_left (by omega), hH]; rfl
  have hq : hexEnd (H ++ R) 0 = 2 + t.size := by
    unfold hexEnd
    have := while_right (A := H) (S := R) (g := bHex) ((H ++ R).size - 2) 0
    rw [h2] at this
    rw [show (0 + 2 : Nat) = 2 + 0 from rfl, this]
    congr 1
    exact while_at (by omega) (fun _ => by rw [hsp]; rfl) _ 0 (Nat.zero_le _) (by omega) (fun k _ hk => hd k hk)
  have hx : isHexN (H ++ R) 0 = true := by
    unfold isHexN
    rw [hq, decide_eq_true (by omega), Bool.and_true]
    unfold hexX Lib.hasPrefix
    rw [ByteArray.extract_zero_size, ByteArray.data_append, Array.toList_append, hH]
    rfl
  have he : (H ++ R).extract 2 (2 + t.size) = t := by
    have := ext_right (A := H) (S := R) 0 t.size
    rw [h2, hR] at this
    rw [hR]
    exact this.trans (ByteArray.extract_append_eq_left rfl)
  have hi : whileV (H ++ R) bInName ((H ++ R).size - (2 + t.size)) (2 + t.size) = 2 + t.size := by
    have := while_right (A := H) (S := R) (g := bInName) ((H ++ R).size - (2 + t.size)) t.size
    rw [h2] at this
    rw [this]
    congr 1
    exact while_at (by omega) (fun _ => by rw [hsp]; rfl) _ _ (Nat.le_refl _) (by omega) (fun k h5 h6 => by omega)
  refine ⟨_, _, _, _, _, by rw [clamp_zero, next_digit (by omega) (by rw [h48]; rfl)], ?_⟩
  unfold numT
  rw [hx, if_pos rfl, hq, numW_val (by decide) (M := M) (by rw [Nat.zero_add, he]; exact h.val), hi, if_neg (Nat.lt_irrefl _)]
  by_cases h1 : M ≤ 4294967295
  · rw [if_pos h1]
    simp [h1]
  · rw [if_neg h1]
    simp [h1]
end Go.Proofs.YtjgpojjbjgdfkaaDoor
