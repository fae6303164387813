/-
  The items of AsmRows: plain facts.
-/
import Derived.Test.YtpjnefnngmlpjaaAsx
import Derived.Laws.BytesArg
namespace Go.Proofs.Ytpjnefnngmlpjaa
open Go.RowKit

def nmL (i : Nat) : ByteArray := ⟨#[108]⟩ ++ strOfNums [97 + (i : Int) % 26, 97 + (i : Int) / 26]
theorem nmL_all : ((List.range 30).all fun i => (List.range 30).all fun j => (i == j) || !((nmL i).data.toList == (nmL j).data.toList)) = true := by decide +kernel
theorem nmL_inj {i j : Nat} (hi : i < 30) (hj : j < 30) (h : nmL i = nmL j) : i = j := by
  have h1 := List.all_eq_true.1 nmL_all i (List.mem_range.2 hi)
  have h2 := List.all_eq_true.1 h1 j (List.mem_range.2 hj)
  rw [h] at h2
  simpa using h2
theorem nmL_len : ((List.range 30).all fun i => (nmL i).data.toList.length == 3) = true := by decide +kernel
theorem nmL_size {i : Nat} (hi : i < 30) : (nmL i).size = 3 := by
  have := List.all_eq_true.1 nmL_len i (List.mem_range.2 hi)
  simpa using this
theorem nmL_nm {i : Nat} (hi : i < 30) : Nm (nmL i) := by
  unfold Nm maxLen
  rw [nmL_size hi]
  omega
theorem nmL_ne {i : Nat} (hi : i < 30) : ((nmL i).toList == []) = false := by
  have h := nmL_size hi
  have h2 : (nmL i).data.toList.length = 3 := h
  rw [ByteArray.toList_eq]
  cases h3 : (nmL i).data.toList with
  | nil => rw [h3] at h2; cases h2
  | cons a l => rfl
def labI (s : ByteArray) : It := ⟨1, s, ⟨#[]⟩, 0, 0, 0, 0, 0, none, 0, 0⟩
def strAddi : ByteArray := ⟨#[97, 100, 100, 105]⟩
def rowI (z : Int) (g : Nat) : It :=
  if z % 3 = 0 then ⟨7, ⟨#[]⟩, ⟨#[]⟩, 0, 0, 0, 0, 0, some ⟨g, 0, none⟩, 2, 2⟩ else
  if z % 3 = 1 then ⟨8, ⟨#[]⟩, ⟨#[]⟩, 0, 0, 0, 0, z % 9, none, 0, 0⟩ else ⟨2, ⟨#[]⟩, strAddi, z % 32, 0, 0, 0, 0, none, 0, 0⟩
def pieceL (z x : Int) : List Int := if z % 3 = 0 then [x, z] else if z % 3 = 1 then List.replicate (z % 9).toNat 0 else [z % 32 * 128 + 19]
def wantL (zs : Nat → Int) (x : Int) : Nat → List Int
  | 0 => []
  | m + 1 => wantL zs x m ++ pieceL (zs m) x
def atV (zs : Nat → Int) (x b : Int) (i : Nat) : Int := addrV b ((wantL zs x i).length : Int)
def atL (zs : Nat → Int) (x b : Int) : Nat → List Int
  | 0 => []
  | m + 1 => atL zs x b m ++ [atV zs x b m]
theorem atL_len (zs : Nat → Int) (x b : Int) : ∀ m, (atL zs x b m).length = m
  | 0 => rfl
  | m + 1 => by
    show (atL zs x b m ++ [_]).length = m + 1
    rw [List.length_append, atL_len zs x b m]
    rfl
theorem atL_at (zs : Nat → Int) (x b : Int) : ∀ m i, i < m → (atL zs x b m)[i]? = some (atV zs x b i)
  | 0, _, h => by omega
  | m + 1, i, h => by
    show (atL zs x b m ++ [_])[i]? = _
    rcases Nat.lt_or_ge i m with h1 | h1
    · rw [List.getElem?_append_left (by rw [atL_len]; exact h1)]
      exact atL_at zs x b m i h1
    · have : i = m := by omega
      subst this
      rw [List.getElem?_append_right (by rw [atL_len]; exact Nat.le_refl _), atL_len, Nat.sub_self]
      rfl
/-- The items behind so many rounds. -/
structure RowR (xs : List It) (zs : Nat → Int) (gf : Nat → Nat) (m : Nat) : Prop where
  len : xs.length = 2 * m
  lab : ∀ i, i < m → xs[2 * i]? = some (labI (nmL i))
  itm : ∀ i, i < m → xs[2 * i + 1]? = some (rowI (zs i) (gf i))
  few : m ≤ 30
  u8 : ∀ i, i < m → 0 ≤ zs i ∧ zs i < 256
theorem RowR.zero (zs : Nat → Int) (gf : Nat → Nat) : RowR [] zs gf 0 := ⟨rfl, fun i h => by omega, fun i h => by omega, by omega, fun i h => by omega⟩
theorem RowR.more {xs : List It} {zs : Nat → Int} {gf gf' : Nat → Nat} {m : Nat} (h : RowR xs zs gf m) (hm : m < 30) (hz : 0 ≤ zs m ∧ zs m < 256) (hg : ∀ i, i < m → gf' i = gf i) : RowR (xs ++ [labI (nmL m), rowI (zs m) (gf' m)]) zs gf' (m + 1) := by
  refine ⟨by rw [List.length_append, h.len]; show 2 * m + 2 = _; omega, fun i hi => ?_, fun i hi => ?_, by omega, fun i hi => ?_⟩
  · rcases Nat.lt_or_ge i m with h1 | h1
    · rw [List.getElem?_append_left (by rw [h.len]; omega)]
      exact h.lab i h1
    · have : i = m := by omega
      subst this
      rw [List.getElem?_append_right (by rw [h.len]; omega), h.len, Nat.sub_self]
      rfl
  · rcases Nat.lt_or_ge i m with h1 | h1
    · rw [List.getElem?_append_left (by rw [h.len]; omega), h.itm i h1, hg i h1]
    · have : i = m := by omega
      subst this
      rw [List.getElem?_append_right (by rw [h.len]; omega), h.len, show 2 * i + 1 - 2 * i = 1 by omega]
      rfl
  · rcases Nat.lt_or_ge i m with h1 | h1
    · exact h.u8 i h1
    · have : i = m := by omega
      subst this
      exact hz
theorem RowR.parts {xs : List It} {zs : Nat → Int} {gf : Nat → Nat} {m : Nat} (h : RowR xs zs gf m) {k : Nat} {y : It} (hy : xs[k]? = some y) :
    (∃ i, i < m ∧ k = 2 * i ∧ y = labI (nmL i)) ∨ (∃ i, i < m ∧ k = 2 * i + 1 ∧ y = rowI (zs i) (gf i)) := by
  have hk : k < 2 * m := by
    have := (List.getElem?_eq_some_iff.1 hy).1
    rw [h.len] at this
    exact this
  rcases Nat.mod_two_eq_zero_or_one k with e | e
  · left
    have e2 : k = 2 * (k / 2) := by omega
    refine ⟨k / 2, by omega, e2, ?_⟩
    rw [e2, h.lab _ (by omega)] at hy
    cases hy
    rfl
  · right
    have e2 : k = 2 * (k / 2) + 1 := by omega
    refine ⟨k / 2, by omega, e2, ?_⟩
    rw [e2, h.itm _ (by omega)] at hy
    cases hy
    rfl
theorem RowR.all {xs : List It} {zs : Nat → Int} {gf : Nat → Nat} {m : Nat} (h : RowR xs zs gf m) {P : It → Prop} (h1 : ∀ i, i < 30 → P (labI (nmL i))) (h2 : ∀ z g, 0 ≤ z → z < 256 → P (rowI z g)) : ∀ y ∈ xs, P y := by
  intro y hy
  obtain ⟨k, hk⟩ := List.mem_iff_getElem?.1 hy
  have hf := h.few
  rcases h.parts hk with ⟨i, hi, _, rfl⟩ | ⟨i, hi, _, rfl⟩
  · exact h1 i (by omega)
  · exact h2 _ _ (h.u8 i hi).1 (h.u8 i hi).2
theorem e_nm : Nm (⟨#[]⟩ : ByteArray) := by unfold Nm; decide
theorem rowI_ok (z : Int) (g : Nat) (_ : 0 ≤ z) (_ : z < 256) : ItOk (rowI z g) := by
  unfold rowI
  split
  · exact ⟨⟨by show (0 : Int) ≤ 0; omega, by show (0 : Int) < 4294967296; omega⟩, e_nm, by show 2 ≤ 1000000000; omega⟩
  · split
    · exact ⟨⟨by show 0 ≤ z % 9; omega, by show z % 9 < 4294967296; omega⟩, e_nm, by show 0 ≤ 1000000000; omega⟩
    · exact ⟨⟨by show (0 : Int) ≤ 0; omega, by show (0 : Int) < 4294967296; omega⟩, e_nm, by show 0 ≤ 1000000000; omega⟩
theorem RowR.ok {xs : List It} {zs : Nat → Int} {gf : Nat → Nat} {m : Nat} (h : RowR xs zs gf m) : ∀ y ∈ xs, ItOk y :=
  h.all (fun i hi => ⟨⟨by show (0 : Int) ≤ 0; omega, by show (0 : Int) < 4294967296; omega⟩, nmL_nm hi, by show 0 ≤ 1000000000; omega⟩) rowI_ok
theorem RowR.plain {xs : List It} {zs : Nat → Int} {gf : Nat → Nat} {m : Nat} (h : RowR xs zs gf m) : ∀ y ∈ xs, plainIt y :=
  h.all (fun _ _ => .inl rfl) (fun z g _ _ => by
    unfold rowI
    split
    · exact .inr (.inr (.inr (.inl rfl)))
    · split
      · exact .inr (.inr (.inr (.inr rfl)))
      · exact .inr (.inl rfl))
theorem addi_all : ((List.range 32).all fun d => mayV ⟨[97, 100, 100, 105], (d : Int), 0, 0, 0⟩ && (putN ⟨[97, 100, 100, 105], (d : Int), 0, 0, 0⟩ == (d : Int) * 128 + 19)) = true := by decide +kernel
theorem addi_is (z : Int) : mayV ⟨[97, 100, 100, 105], z % 32, 0, 0, 0⟩ = true ∧ putN ⟨[97, 100, 100, 105], z % 32, 0, 0, 0⟩ = z % 32 * 128 + 19 := by
  have := List.all_eq_true.1 addi_all (z % 32).toNat (List.mem_range.2 (by omega))
  rw [show (((z % 32).toNat : Nat) : Int) = z % 32 by omega] at this
  simpa using this
theorem addi_l : strAddi.toList = [97, 100, 100, 105] := strB _
theorem rowI_may (z : Int) (g : Nat) : mayIt (rowI z g) = true := by
  unfold rowI
  split
  · rfl
  · split
    · rfl
    · show mayV ⟨strAddi.toList, z % 32, 0, 0, 0⟩ = true
      rw [addi_l]
      exact (addi_is z).1
theorem rowI_size (z x : Int) (g : Nat) : sizeV (rowI z g) = ((pieceL z x).length : Int) ∧ 0 ≤ sizeV (rowI z g) ∧ sizeV (rowI z g) ≤ 9 := by
  unfold rowI pieceL
  split
  · exact ⟨rfl, by show (0 : Int) ≤ 2; omega, by show (2 : Int) ≤ 9; omega⟩
  · split
    · have e : sizeV ⟨8, ⟨#[]⟩, ⟨#[]⟩, 0, 0, 0, 0, z % 9, none, 0, 0⟩ = z % 9 := rfl
      rw [e, List.length_replicate]
      omega
    · exact ⟨rfl, by show (0 : Int) ≤ 1; omega, by show (1 : Int) ≤ 9; omega⟩
theorem RowR.name {xs : List It} {zs : Nat → Int} {gf : Nat → Nat} {m : Nat} (h : RowR xs zs gf m) : ∀ k i, i < m → 2 * i < k → labF xs k (nmL i) = some ((2 * i : Nat) : Int)
  | 0, i, _, hk => by omega
  | k + 1, i, hi, hk => by
    have hf := h.few
    cases hx : xs[k]? with
    | none =>
      unfold labF
      rw [hx]
      exact h.name k i hi (by
        have := List.getElem?_eq_none_iff.1 hx
        rw [h.len] at this
        omega)
    | some y =>
      unfold labF
      rw [hx]
      show (if y.kind = 1 ∧ labF xs k y.name = none then updS (labF xs k) y.name k else labF xs k) (nmL i) = _
      rcases h.parts hx with ⟨j, hj, e, rfl⟩ | ⟨j, hj, e, rfl⟩
      · have hn : labF xs k (labI (nmL j)).name = none := by
          refine labF_off _ (fun a y ha hy hkd => ?_)
          rcases h.parts hy with ⟨b, hb, eb, rfl⟩ | ⟨b, hb, eb, rfl⟩
          · intro he
            have := nmL_inj (by omega) (by omega) (show nmL b = nmL j from he)
            omega
          · exfalso
            revert hkd
            unfold rowI
            split
            · show ¬ (7 : Int) = 1; omega
            · split
              · show ¬ (8 : Int) = 1; omega
              · show ¬ (2 : Int) = 1; omega
        rw [if_pos ⟨rfl, hn⟩]
        unfold updS
        by_cases hij : i = j
        · subst hij
          rw [if_pos (show nmL i = (labI (nmL i)).name from rfl), e]
        · rw [if_neg (show ¬ nmL i = (labI (nmL j)).name from fun he => hij (nmL_inj (by omega) (by omega) he))]
          exact h.name k i hi (by omega)
      · rw [if_neg (fun hc => by
          have hkd := hc.1
          revert hkd
          unfold rowI
          split
          · show ¬ (7 : Int) = 1; omega
          · split
            · show ¬ (8 : Int) = 1; omega
            · show ¬ (2 : Int) = 1; omega)]
        exact h.name k i hi (by omega)
theorem RowR.sum {xs : List It} {zs : Nat → Int} {gf : Nat → Nat} {m : Nat} (h : RowR xs zs gf m) (x : Int) : ∀ i, i ≤ m → sumV xs (2 * i) = ((wantL zs x i).length : Int) ∧ (i < m → sumV xs (2 * i + 1) = ((wantL zs x i).length : Int)) ∧ sumV xs (2 * i) ≤ 9 * (i : Int)
  | 0, _ => ⟨rfl, fun hi => by
      rw [sumV_next (h.lab 0 hi)]
      rfl, by show (0 : Int) ≤ _; omega⟩
  | i + 1, hi => by
    obtain ⟨h1, h2, h3⟩ := h.sum x i (by omega)
    obtain ⟨z1, z2, z3⟩ := rowI_size (zs i) x (gf i)
    have e : sumV xs (2 * (i + 1)) = sumV xs (2 * i + 1) + sizeV (rowI (zs i) (gf i)) := by
      rw [show 2 * (i + 1) = 2 * i + 1 + 1 by omega]
      exact sumV_next (h.itm i (by omega))
    have l : ((wantL zs x (i + 1)).length : Int) = ((wantL zs x i).length : Int) + ((pieceL (zs i) x).length : Int) := by
      show ((wantL zs x i ++ pieceL (zs i) x).length : Int) = _
      rw [List.length_append]
      push_cast
      rfl
    have e1 : sumV xs (2 * (i + 1)) = ((wantL zs x (i + 1)).length : Int) := by rw [e, h2 (by omega), l, z1]
    refine ⟨e1, fun hlt => ?_, ?_⟩
    · rw [sumV_next (h.lab (i + 1) hlt), e1]
      have : sizeV (labI (nmL (i + 1))) = 0 := rfl
      omega
    · rw [e, h2 (by omega), ← h1]
      push_cast
      omega
theorem RowR.sums {xs : List It} {zs : Nat → Int} {gf : Nat → Nat} {m : Nat} (h : RowR xs zs gf m) : ∀ k, k ≤ xs.length → sumV xs k ≤ 65536 := by
  intro k hk
  rw [h.len] at hk
  have hf := h.few
  have h1 := sumV_mono h.ok k (2 * m) hk
  have h2 := (h.sum 0 m (Nat.le_refl _)).2.2
  omega
theorem RowR.right {xs : List It} {zs : Nat → Int} {gf : Nat → Nat} {m : Nat} (h : RowR xs zs gf m) {r : Nat} {at' er : Int} (hw : WrongAt xs r at' er) : er = 0 := by
  rcases hw.is with ⟨k, y, hy, e1, e2, e3, e4⟩ | ⟨_, e2, _⟩
  · exfalso
    apply e3
    rw [e2]
    have hk : k < xs.length := (List.getElem?_eq_some_iff.1 hy).1
    have hr : k ≠ r := by
      intro e
      subst e
      have h1 := hw.full.many hk
      have h2 := h.sums (k + 1) hk
      omega
    have hf := h.few
    rcases h.parts hy with ⟨i, hi, e, rfl⟩ | ⟨i, hi, e, rfl⟩
    · refine wrong_none rfl ?_ hr
      show (!((nmL i).toList == []) && (((labF xs xs.length (nmL i)).getD 0) == (k : Int))) = true
      rw [nmL_ne (by omega), h.name xs.length i hi (by rw [h.len]; omega), e]
      simp
    · refine wrong_none (rowI_may _ _) ?_ hr
      unfold nameOk rowI
      split
      · rfl
      · split
        · rfl
        · rfl
  · exact e2
theorem RowR.labs {xs : List It} {zs : Nat → Int} {gf : Nat → Nat} {m : Nat} (h : RowR xs zs gf m) : ∀ (k : Nat) (y : It), xs[k]? = some y → y.kind = 1 → labF xs xs.length y.name = some (k : Int) := by
  intro k y hy hk
  rcases h.parts hy with ⟨i, hi, e, rfl⟩ | ⟨i, hi, e, rfl⟩
  · rw [e]
    exact h.name xs.length i hi (by rw [h.len]; omega)
  · exfalso
    revert hk
    unfold rowI
    split
    · show ¬ (7 : Int) = 1; omega
    · split
      · show ¬ (8 : Int) = 1; omega
      · show ¬ (2 : Int) = 1; omega
def wfR (zs : Nat → Int) (x : Int) (k : Nat) : List Int := [x, zs (k / 2)]
theorem rowI_W {z x : Int} {g : Nat} : itemW (rowI z g) [x, z] = pieceL z x := by
  unfold rowI pieceL
  split
  · rfl
  · split
    · rfl
    · show [putN ⟨strAddi.toList, z % 32, 0, 0, 0⟩] = _
      rw [addi_l, (addi_is z).2]
theorem RowR.outW {xs : List It} {zs : Nat → Int} {gf : Nat → Nat} {m : Nat} (h : RowR xs zs gf m) (x : Int) : ∀ i, i ≤ m → outW xs (wfR zs x) (2 * i) = wantL zs x i
  | 0, _ => rfl
  | i + 1, hi => by
    rw [show 2 * (i + 1) = 2 * i + 1 + 1 by omega, outW_next (h.itm i (by omega)), outW_next (h.lab i (by omega)), h.outW x i (by omega)]
    have e1 : itemW (labI (nmL i)) (wfR zs x (2 * i)) = [] := rfl
    have e2 : wfR zs x (2 * i + 1) = [x, zs i] := by
      unfold wfR
      rw [show (2 * i + 1) / 2 = i by omega]
    rw [e1, e2, rowI_W, List.append_nil]
    rfl
def symL (zs : Nat → Int) (x b : Int) : Nat → List (ByteArray × Int)
  | 0 => []
  | m + 1 => symL zs x b m ++ [(nmL m, atV zs x b m)]
theorem symL_len (zs : Nat → Int) (x b : Int) : ∀ m, (symL zs x b m).length = m
  | 0 => rfl
  | m + 1 => by
    show (symL zs x b m ++ [_]).length = m + 1
    rw [List.length_append, symL_len zs x b m]
    rfl
theorem symL_at (zs : Nat → Int) (x b : Int) : ∀ m i, i < m → (symL zs x b m)[i]? = some (nmL i, atV zs x b i)
  | 0, _, h => by omega
  | m + 1, i, h => by
    show (symL zs x b m ++ [_])[i]? = _
    rcases Nat.lt_or_ge i m with h1 | h1
    · rw [List.getElem?_append_left (by rw [symL_len]; exact h1)]
      exact symL_at zs x b m i h1
    · have : i = m := by omega
      subst this
      rw [List.getElem?_append_right (by rw [symL_len]; exact Nat.le_refl _), symL_len, Nat.sub_self]
      rfl
theorem RowR.outS {xs : List It} {zs : Nat → Int} {gf : Nat → Nat} {m : Nat} (h : RowR xs zs gf m) (x b : Int) : ∀ i, i ≤ m → outS b xs (2 * i) = symL zs x b i
  | 0, _ => rfl
  | i + 1, hi => by
    rw [show 2 * (i + 1) = 2 * i + 1 + 1 by omega, outS_next (h.itm i (by omega)), outS_next (h.lab i (by omega)), h.outS x b i (by omega)]
    have e1 : itemS b xs (2 * i) (labI (nmL i)) = [(nmL i, addrV b (sumV xs (2 * i)))] := rfl
    have e2 : itemS b xs (2 * i + 1) (rowI (zs i) (gf i)) = [] := by
      unfold itemS rowI
      split
      · rfl
      · split
        · rfl
        · rfl
    rw [e1, e2, List.append_nil, (h.sum x i (by omega)).1]
    rfl
end Go.Proofs.Ytpjnefnngmlpjaa
