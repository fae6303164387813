/-
  Package lex: plain facts for the laws: what a token is, how tokens stand one behind the other, what stands ahead of a source.
-/
import Derived.Test.YtjgpojjbjgdfkaaDoorLxp
namespace Go.Proofs.YtjgpojjbjgdfkaaDoor
open Go.RowKit

theorem while_at {S : ByteArray} {g : Int → Bool} {m : Nat} (hm : m ≤ S.size) (hs : m < S.size → g (byteV S m) = false) : ∀ n p, p ≤ m → m ≤ n + p → (∀ k, p ≤ k → k < m → g (byteV S k) = true) → whileV S g n p = m
  | 0, p, h1, h2, _ => by
    unfold whileV
    omega
  | n + 1, p, h1, h2, h => by
    unfold whileV
    by_cases hp : p < m
    · rw [if_pos (by rw [h p (Nat.le_refl p) hp, decide_eq_true (by omega)]; rfl)]
      exact while_at hm hs n (p + 1) (by omega) (by omega) (fun k h3 h4 => h k (by omega) h4)
    · have e : p = m := by omega
      subst e
      by_cases hlt : p < S.size
      · rw [if_neg (by rw [hs hlt]; simp)]
      · rw [if_neg (by rw [decide_eq_false hlt]; simp)]
theorem byte_left {A S : ByteArray} {k : Nat} (h : k < A.size) : byteV (A ++ S) k = byteV A k := by
  unfold byteV
  rw [dif_pos h, dif_pos (by rw [ByteArray.size_append]; omega), ByteArray.getElem_append_left h]
theorem byte_right {A S : ByteArray} (k : Nat) : byteV (A ++ S) (A.size + k) = byteV S k := by
  unfold byteV
  by_cases h : k < S.size
  · rw [dif_pos h, dif_pos (by rw [ByteArray.size_append]; omega), ByteArray.getElem_append_right (by omega)]
    simp only [Nat.add_sub_cancel_left]
  · rw [dif_neg h, dif_neg (by rw [ByteArray.size_append]; omega)]
theorem lt_right {A S : ByteArray} {p : Nat} : decide (A.size + p < (A ++ S).size) = decide (p < S.size) := by
  rw [ByteArray.size_append]
  exact decide_eq_decide.2 ⟨fun h => by omega, fun h => by omega⟩
theorem sub_right {A S : ByteArray} (p : Nat) : (A ++ S).size - (A.size + p) = S.size - p := by
  rw [ByteArray.size_append]
  omega
theorem while_right {A S : ByteArray} {g : Int → Bool} : ∀ n p, whileV (A ++ S) g n (A.size + p) = A.size + whileV S g n p
  | 0, p => rfl
  | n + 1, p => by
    unfold whileV
    rw [byte_right, lt_right]
    split
    · exact while_right n (p + 1)
    · rfl
theorem skip_right {A S : ByteArray} : ∀ n p, skipV (A ++ S) n (A.size + p) = A.size + skipV S n p
  | 0, p => rfl
  | n + 1, p => by
    unfold skipV
    rw [byte_right, sub_right, while_right]
    by_cases hp : p < S.size
    · rw [if_pos hp, if_pos (by rw [ByteArray.size_append]; omega)]
      split
      · exact skip_right n (p + 1)
      · split
        · exact skip_right n _
        · rfl
    · rw [if_neg hp, if_neg (by rw [ByteArray.size_append]; omega)]
theorem skip_fuel {S : ByteArray} {n p : Nat} (h : S.size ≤ n + p) : ∀ m, skipV S (n + m) p = skipV S n p
  | 0 => rfl
  | m + 1 => by
    rw [← Nat.add_assoc, skip_more (n + m) p (by omega)]
    exact skip_fuel h m
theorem hexX_right {A S : ByteArray} (p : Nat) : hexX (A ++ S) (A.size + p) = hexX S p := by
  unfold hexX
  rw [ByteArray.size_append, ByteArray.extract_append_size_add]
theorem hexEnd_right {A S : ByteArray} (p : Nat) : hexEnd (A ++ S) (A.size + p) = A.size + hexEnd S p := by
  unfold hexEnd
  rw [Nat.add_assoc, sub_right, while_right]
theorem isHexN_right {A S : ByteArray} (p : Nat) : isHexN (A ++ S) (A.size + p) = isHexN S p := by
  unfold isHexN
  rw [hexX_right, hexEnd_right]
  congr 1
  exact decide_eq_decide.2 ⟨fun h => by omega, fun h => by omega⟩
/-- A place, moved. -/
def fourR (D : Nat) (x : Int × ByteArray × Int × Nat) : Int × ByteArray × Int × Nat := (x.1, x.2.1, x.2.2.1, D + x.2.2.2)
theorem numW_right {A S : ByteArray} (p d b q : Nat) : numW (A ++ S) (A.size + p) (A.size + d) b (A.size + q) = fourR A.size (numW S p d b q) := by
  unfold numW
  rw [ByteArray.extract_append_size_add, ByteArray.extract_append_size_add, sub_right, while_right]
  split
  · by_cases h : q < whileV S bInName (S.size - q) q
    · rw [if_pos h, if_pos (by omega)]
      rfl
    · rw [if_neg h, if_neg (by omega)]
      rfl
  · rfl
theorem numT_right {A S : ByteArray} (p : Nat) : numT (A ++ S) (A.size + p) = fourR A.size (numT S p) := by
  unfold numT
  rw [isHexN_right, hexEnd_right, sub_right, while_right]
  split
  · exact numW_right p (p + 2) 16 _
  · exact numW_right p p 10 _
theorem signN_right {A S : ByteArray} (p : Nat) : signN (A ++ S) (A.size + p) = signN S p := by
  unfold signN
  rw [byte_right, Nat.add_assoc, byte_right]
theorem ext_right {A S : ByteArray} (p q : Nat) : (A ++ S).extract (A.size + p) (A.size + q) = S.extract p q := ByteArray.extract_append_size_add
/-- A source behind another, where what stands ahead is passed over. -/
theorem next_right {A S : ByteArray} {p' p : Nat} (h : skipV (A ++ S) (A ++ S).size p' = A.size + skipV S S.size p) {K n : Int} {t : ByteArray} {a E : Nat} (hT : nextT S p = (K, t, n, a, E)) :
    nextT (A ++ S) p' = (K, t, n, A.size + a, A.size + E) := by
  unfold nextT at hT ⊢
  rw [h, byte_right, sub_right, while_right, numT_right, signN_right, ext_right, Nat.add_assoc A.size (skipV S S.size p), ext_right]
  generalize skipV S S.size p = q at *
  by_cases h1 : q = S.size
  · rw [if_pos h1] at hT
    rw [if_pos (by rw [h1, ByteArray.size_append])]
    simp only [Prod.mk.injEq] at hT ⊢
    obtain ⟨rfl, rfl, rfl, rfl, rfl⟩ := hT
    exact ⟨rfl, rfl, rfl, ByteArray.size_append, ByteArray.size_append⟩
  · rw [if_neg h1] at hT
    rw [if_neg (by rw [ByteArray.size_append]; omega)]
    split at hT
    · rename_i h2
      rw [if_pos h2]
      simp only [Prod.mk.injEq] at hT ⊢
      obtain ⟨rfl, rfl, rfl, rfl, rfl⟩ := hT
      exact ⟨rfl, rfl, rfl, rfl, rfl⟩
    · rename_i h2
      rw [if_neg h2]
      split at hT
      · rename_i h3
        rw [if_pos h3]
        simp only [Prod.mk.injEq] at hT ⊢
        obtain ⟨rfl, rfl, rfl, rfl, rfl⟩ := hT
        exact ⟨rfl, rfl, rfl, rfl, rfl⟩
      · rename_i h3
        rw [if_neg h3]
        simp only [Prod.mk.injEq] at hT ⊢
        obtain ⟨rfl, rfl, rfl, rfl, rfl⟩ := hT
        exact ⟨rfl, rfl, rfl, rfl, by omega⟩
/-- What is passed over, whatever comes behind it. -/
def Blank (A : ByteArray) : Prop := ∀ R : ByteArray, skipV (A ++ R) (A ++ R).size 0 = A.size + skipV R R.size 0
theorem blank_none : Blank ⟨#[]⟩ := fun R => by
  have e : (⟨#[]⟩ : ByteArray) ++ R = R := ByteArray.empty_append
  rw [e]
  exact (Nat.zero_add _).symm
theorem blank_app {A B : ByteArray} (ha : Blank A) (hb : Blank B) : Blank (A ++ B) := fun R => by
  rw [ByteArray.append_assoc, ha, hb, ByteArray.size_append, Nat.add_assoc]
theorem blank_byte {A : ByteArray} (h1 : A.size = 1) (h : bBlank (byteV A 0) = true) : Blank A := fun R => by
  have hs : (A ++ R).size = R.size + 1 := by rw [ByteArray.size_append, h1, Nat.add_comm]
  rw [hs, skipV, if_pos (by omega), byte_left (by omega), if_pos h]
  have := skip_right (A := A) (S := R) R.size 0
  rw [h1] at this
  rw [h1]
  exact this
theorem blank_note {A : ByteArray} {m : Nat} (h1 : A.size = m + 2) (h0 : byteV A 0 = 35) (h : ∀ k, k < m + 1 → bInLine (byteV A k) = true) (hl : byteV A (m + 1) = 10) : Blank A := fun R => by
  have hs : (A ++ R).size = (R.size + m) + 1 + 1 := by rw [ByteArray.size_append, h1]; omega
  have hw : whileV (A ++ R) bInLine ((A ++ R).size - 0) 0 = m + 1 := by
    refine while_at (by omega) (fun _ => ?_) _ 0 (by omega) (by omega) (fun k _ hk => ?_)
    · rw [byte_left (by omega), hl]
      rfl
    · rw [byte_left (by omega)]
      exact h k hk
  rw [hs, skipV, if_pos (by omega), byte_left (by omega), h0, if_neg (by decide), if_pos (by decide), hw, skipV, if_pos (by omega), byte_left (by omega), hl, if_pos (by decide)]
  have := skip_right (A := A) (S := R) (R.size + m) 0
  rw [h1] at this
  rw [h1, ← skip_fuel (S := R) (n := R.size) (p := 0) (by omega) m]
  exact this
/-- What is so of a token. -/
def TokOk (S : ByteArray) (K : Int) (t : ByteArray) (a E : Nat) : Prop :=
  a ≤ S.size ∧ E ≤ S.size ∧ ((K = 0 ∨ K = 5) ∧ t = ⟨#[]⟩ ∧ (K = 0 → a = S.size) ∨ K ≠ 0 ∧ K ≠ 5 ∧ 0 < t.size ∧ a + t.size = E ∧ S.extract a E = t)
theorem ext_size {S : ByteArray} {a E : Nat} (h1 : a < E) (h2 : E ≤ S.size) : 0 < (S.extract a E).size ∧ a + (S.extract a E).size = E := by
  rw [ByteArray.size_extract]
  omega
theorem numW_tok {S : ByteArray} {p d b q : Nat} (h : p < q) (hq : q ≤ S.size) {K n : Int} {t : ByteArray} {E : Nat} (hT : numW S p d b q = (K, t, n, E)) : TokOk S K t p E := by
  have h1 := while_ge S bInName (S.size - q) q
  have h2 := while_le (S := S) (g := bInName) (S.size - q) q hq
  unfold numW at hT
  split at hT
  · split at hT
    · simp only [Prod.mk.injEq] at hT
      obtain ⟨rfl, rfl, -, rfl⟩ := hT
      exact ⟨by omega, by omega, Or.inl ⟨Or.inr rfl, rfl, fun h => by cases h⟩⟩
    · simp only [Prod.mk.injEq] at hT
      obtain ⟨rfl, rfl, -, rfl⟩ := hT
      exact ⟨by omega, hq, Or.inr ⟨by decide, by decide, (ext_size h hq).1, (ext_size h hq).2, rfl⟩⟩
  · simp only [Prod.mk.injEq] at hT
    obtain ⟨rfl, rfl, -, rfl⟩ := hT
    exact ⟨by omega, by omega, Or.inl ⟨Or.inr rfl, rfl, fun h => by cases h⟩⟩
theorem numT_tok {S : ByteArray} {p : Nat} (hp : p < S.size) (hd : bDigit (byteV S p) = true) {K n : Int} {t : ByteArray} {E : Nat} (hT : numT S p = (K, t, n, E)) : TokOk S K t p E := by
  unfold numT at hT
  split at hT
  · rename_i h
    unfold isHexN at h
    simp only [Bool.and_eq_true, decide_eq_true_eq] at h
    have hs := hexX_size h.1
    refine numW_tok (by omega) ?_ hT
    unfold hexEnd
    exact while_le _ _ hs
  · refine numW_tok ?_ (while_le _ _ (by omega)) hT
    rw [show S.size - p = (S.size - p - 1) + 1 by omega]
    exact while_on hp hd
theorem nextT_tok {S : ByteArray} {p : Nat} (hp : p ≤ S.size) {K n : Int} {t : ByteArray} {a E : Nat} (hT : nextT S p = (K, t, n, a, E)) : TokOk S K t a E := by
  have g2 := skip_le (S := S) S.size p hp
  unfold nextT at hT
  generalize skipV S S.size p = q at *
  split at hT
  · simp only [Prod.mk.injEq] at hT
    obtain ⟨rfl, rfl, -, rfl, rfl⟩ := hT
    exact ⟨Nat.le_refl _, Nat.le_refl _, Or.inl ⟨Or.inl rfl, rfl, fun _ => rfl⟩⟩
  · split at hT
    · rename_i h1 h2
      simp only [Prod.mk.injEq] at hT
      obtain ⟨rfl, rfl, -, rfl, rfl⟩ := hT
      exact numT_tok (by omega) h2 rfl
    · split at hT
      · rename_i h1 h2 h3
        have m1 := while_on (S := S) (g := bInName) (n := S.size - q - 1) (p := q) (by omega) (letter_name h3)
        rw [show S.size - q - 1 + 1 = S.size - q by omega] at m1
        have m2 := while_le (S := S) (g := bInName) (S.size - q) q g2
        simp only [Prod.mk.injEq] at hT
        obtain ⟨rfl, rfl, -, rfl, rfl⟩ := hT
        refine ⟨g2, m2, Or.inr ⟨?_, ?_, (ext_size (by omega) m2).1, (ext_size (by omega) m2).2, rfl⟩⟩ <;> (split <;> decide)
      · rename_i h1 h2 h3
        obtain ⟨N, hN, m1, m2⟩ := signN_len (S := S) (p := q) (by omega)
        rw [hN, Int.toNat_natCast] at hT
        simp only [Prod.mk.injEq] at hT
        obtain ⟨rfl, rfl, -, rfl, rfl⟩ := hT
        unfold signK signE
        by_cases h0 : N = 0
        · subst h0
          rw [if_pos rfl, if_pos rfl]
          exact ⟨g2, by omega, Or.inl ⟨Or.inr rfl, ByteArray.extract_same, fun h => by cases h⟩⟩
        · rw [if_neg h0, if_neg h0]
          exact ⟨g2, by omega, Or.inr ⟨by decide, by decide, (ext_size (by omega) (by omega)).1, (ext_size (by omega) (by omega)).2, rfl⟩⟩
/-- Tokens stand one behind the other, from p on; the last one alone ends, or is none. -/
def Chain (S : ByteArray) : Nat → List (Int × ByteArray × Int × Nat) → Prop
  | _, [] => False
  | p, (K, t, _, a) :: l => p ≤ a ∧ a ≤ S.size ∧ ((K = 0 ∨ K = 5) ∧ l = [] ∧ t = ⟨#[]⟩ ∧ (K = 0 → a = S.size) ∨ K ≠ 0 ∧ K ≠ 5 ∧ 0 < t.size ∧ a + t.size ≤ S.size ∧ S.extract a (a + t.size) = t ∧ Chain S (a + t.size) l)
theorem allV_chain {S : ByteArray} : ∀ f p, p ≤ S.size → S.size - p < f → Chain S p (allV S f p)
  | 0, p, _, h => by omega
  | f + 1, p, hp, h => by
    obtain ⟨K, t, n, a, E, hT⟩ : ∃ K t n a E, nextT S p = (K, t, n, a, E) := ⟨_, _, _, _, _, rfl⟩
    obtain ⟨m1, m2, m3, m4⟩ := nextT_more hp hT
    obtain ⟨t1, t2, t3⟩ := nextT_tok hp hT
    rw [allV, hT]
    dsimp only
    refine ⟨m1, t1, ?_⟩
    rcases t3 with ⟨k, e1, e2⟩ | ⟨k1, k2, e1, e2, e3⟩
    · refine Or.inl ⟨k, ?_, e1, e2⟩
      rw [if_pos]
      rcases k with rfl | rfl <;> decide
    · refine Or.inr ⟨k1, k2, e1, by omega, by rw [e2]; exact e3, ?_⟩
      rw [if_neg (by simp [k1, k2]), e2]
      have := m4 k1
      exact allV_chain f E t2 (by omega)
end Go.Proofs.YtjgpojjbjgdfkaaDoor
