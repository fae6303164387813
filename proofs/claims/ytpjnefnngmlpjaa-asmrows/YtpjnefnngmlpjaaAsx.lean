/-
  The items of AsmWrong: which of them is wrong, and how: plain facts.
-/
import Derived.Test.YtpjnefnngmlpjaaAsw
namespace Go.Proofs.Ytpjnefnngmlpjaa
open Go.RowKit

def strNo : ByteArray := ⟨#[110, 111]⟩
def strX : ByteArray := ⟨#[120]⟩
def wIt (g : Nat) : It := ⟨7, ⟨#[]⟩, ⟨#[]⟩, 0, 0, 0, 0, 0, some ⟨g, 0, none⟩, 1, 1⟩
def labX : It := ⟨1, strX, ⟨#[]⟩, 0, 0, 0, 0, 0, none, 0, 0⟩
def noW : It := ⟨7, ⟨#[]⟩, ⟨#[]⟩, 0, 0, 0, 0, 0, none, 0, 0⟩
def badI (n : Int) : Nat → It
  | 0 => ⟨1, ⟨#[]⟩, ⟨#[]⟩, 0, 0, 0, 0, 0, none, 0, 0⟩
  | 1 => ⟨4, strNo, ⟨#[]⟩, 0, 0, 0, 0, 0, none, 0, 0⟩
  | 2 => ⟨9, ⟨#[]⟩, ⟨#[]⟩, 0, 0, 0, 0, 0, none, 0, 0⟩
  | 3 => ⟨2, ⟨#[]⟩, strNo, 0, 0, 0, 0, 0, none, 0, 0⟩
  | 4 => ⟨3, ⟨#[]⟩, ⟨#[106, 97, 108]⟩, 0, 0, 0, 0, 0, none, 0, 0⟩
  | 5 => ⟨8, ⟨#[]⟩, ⟨#[]⟩, 0, 0, 0, 0, n, none, 0, 0⟩
  | 6 => ⟨5, ⟨#[]⟩, ⟨#[]⟩, 32, 0, 0, 0, 0, none, 0, 0⟩
  | 7 => ⟨6, ⟨#[]⟩, ⟨#[]⟩, 1, 0, 0, 0, 0, none, 0, 0⟩
  | 8 => ⟨0, ⟨#[]⟩, ⟨#[]⟩, 0, 0, 0, 0, 0, none, 0, 0⟩
  | _ => ⟨3, strNo, ⟨#[98, 101, 113]⟩, 0, 0, 0, 4, 0, none, 0, 0⟩
def badE : Nat → Int
  | 0 => 6
  | 1 => 6
  | 2 => 1
  | 3 => 1
  | 4 => 1
  | 5 => 9
  | 6 => 1
  | 7 => 6
  | 8 => 1
  | _ => 1
theorem strB (l : List UInt8) : (⟨l.toArray⟩ : ByteArray).toList = l := by rw [ByteArray.toList_eq]
theorem labF_off {xs : List It} {nm : ByteArray} : ∀ k, (∀ i x, i < k → xs[i]? = some x → x.kind = 1 → x.name ≠ nm) → labF xs k nm = none
  | 0, _ => rfl
  | k + 1, h => by
    have h1 := labF_off (xs := xs) (nm := nm) k (fun i x hi => h i x (by omega))
    unfold labF
    cases hx : xs[k]? with
    | none => exact h1
    | some x =>
      show (if x.kind = 1 ∧ labF xs k x.name = none then updS (labF xs k) x.name k else labF xs k) nm = none
      by_cases hc : x.kind = 1 ∧ labF xs k x.name = none
      · rw [if_pos hc]
        unfold updS
        rw [if_neg (fun e => h k x (by omega) hx hc.1 e.symm)]
        exact h1
      · rw [if_neg hc]
        exact h1
/-- The row of AsmWrong: words, one item that is wrong, a label. -/
structure RowW (ws : List It) (L : List It) (n : Int) (j : Nat) : Prop where
  few : ws.length ≤ 4
  wall : ∀ x ∈ ws, ∃ g, x = wIt g
  is : L = ws ++ [badI n j, labX]
  jl : j < 10
  n0 : 65536 ≤ n
  n1 : n < 2147549184
theorem wIt_ok (g : Nat) : ItOk (wIt g) := ⟨⟨by show (0 : Int) ≤ 0; omega, by show (0 : Int) < 4294967296; omega⟩, by show (⟨#[]⟩ : ByteArray).size ≤ maxLen; decide, by show 1 ≤ 1000000000; omega⟩
theorem labX_ok : ItOk labX := ⟨⟨by show (0 : Int) ≤ 0; omega, by show (0 : Int) < 4294967296; omega⟩, by show strX.size ≤ maxLen; decide, by show 0 ≤ 1000000000; omega⟩
theorem noW_ok : ItOk noW := ⟨⟨by show (0 : Int) ≤ 0; omega, by show (0 : Int) < 4294967296; omega⟩, by show (⟨#[]⟩ : ByteArray).size ≤ maxLen; decide, by show 0 ≤ 1000000000; omega⟩
theorem badI_ok (n : Int) (h0 : 65536 ≤ n) (h1 : n < 2147549184) : ∀ j, j < 10 → ItOk (badI n j) := by
  intro j hj
  have hz : U32 0 := ⟨by omega, by omega⟩
  have hn : U32 n := ⟨by omega, by omega⟩
  have e0 : Nm (⟨#[]⟩ : ByteArray) := by unfold Nm; decide
  have e1 : Nm strNo := by unfold Nm; decide
  match j, hj with
  | 0, _ => exact ⟨hz, e0, by show 0 ≤ 1000000000; omega⟩
  | 1, _ => exact ⟨hz, e1, by show 0 ≤ 1000000000; omega⟩
  | 2, _ => exact ⟨hz, e0, by show 0 ≤ 1000000000; omega⟩
  | 3, _ => exact ⟨hz, e0, by show 0 ≤ 1000000000; omega⟩
  | 4, _ => exact ⟨hz, e0, by show 0 ≤ 1000000000; omega⟩
  | 5, _ => exact ⟨hn, e0, by show 0 ≤ 1000000000; omega⟩
  | 6, _ => exact ⟨hz, e0, by show 0 ≤ 1000000000; omega⟩
  | 7, _ => exact ⟨hz, e0, by show 0 ≤ 1000000000; omega⟩
  | 8, _ => exact ⟨hz, e0, by show 0 ≤ 1000000000; omega⟩
  | 9, _ => exact ⟨hz, e1, by show 0 ≤ 1000000000; omega⟩
theorem RowW.ok {ws L : List It} {n : Int} {j : Nat} (h : RowW ws L n j) : ∀ x ∈ L, ItOk x := by
  intro x hx
  rw [h.is] at hx
  rcases List.mem_append.1 hx with h1 | h1
  · obtain ⟨g, rfl⟩ := h.wall x h1
    exact wIt_ok g
  · simp only [List.mem_cons, List.not_mem_nil, or_false] at h1
    rcases h1 with rfl | rfl
    · exact badI_ok n h.n0 h.n1 j h.jl
    · exact labX_ok
theorem RowW.low {ws L : List It} {n : Int} {j : Nat} (h : RowW ws L n j) {i : Nat} {x : It} (hi : i < ws.length) (hx : L[i]? = some x) : ∃ g, x = wIt g := by
  rw [h.is, List.getElem?_append_left hi] at hx
  exact h.wall x (List.mem_of_getElem? hx)
theorem RowW.at' {ws L : List It} {n : Int} {j : Nat} (h : RowW ws L n j) : L[ws.length]? = some (badI n j) := by
  rw [h.is, List.getElem?_append_right (Nat.le_refl _)]
  simp
theorem RowW.len {ws L : List It} {n : Int} {j : Nat} (h : RowW ws L n j) : L.length = ws.length + 2 := by rw [h.is]; simp
theorem RowW.sum {ws L : List It} {n : Int} {j : Nat} (h : RowW ws L n j) : ∀ i, i ≤ ws.length → sumV L i = (i : Int)
  | 0, _ => rfl
  | i + 1, hi => by
    have h1 := h.sum i (by omega)
    obtain ⟨x, hx⟩ : ∃ x, L[i]? = some x := ⟨_, List.getElem?_eq_getElem (by rw [h.len]; omega)⟩
    obtain ⟨g, rfl⟩ := h.low (by omega) hx
    rw [sumV_next hx, h1]
    have : sizeV (wIt g) = 1 := rfl
    rw [this]
    push_cast
    rfl
theorem RowW.lab {ws L : List It} {n : Int} {j : Nat} (h : RowW ws L n j) {nm : ByteArray} (h1 : labX.name ≠ nm) (h2 : (badI n j).kind = 1 → (badI n j).name ≠ nm) : labF L L.length nm = none := by
  refine labF_off _ (fun i x hi hx hk => ?_)
  rcases Nat.lt_trichotomy i ws.length with hl | hl | hl
  · obtain ⟨g, rfl⟩ := h.low hl hx
    exact absurd hk (by show ¬ (7 : Int) = 1; omega)
  · subst hl
    rw [h.at'] at hx
    cases hx
    exact h2 hk
  · have e : i = ws.length + 1 := by rw [h.len] at hi; omega
    rw [h.is, List.getElem?_append_right (by omega), e, show ws.length + 1 - ws.length = 1 by omega] at hx
    cases hx
    exact h1
theorem RowW.ahead {ws L : List It} {n : Int} {j : Nat} (h : RowW ws L n j) {r : Nat} (hf : FullAt L r) : ∀ i y, i < ws.length → L[i]? = some y → wrongE L r i y = 0 := by
  intro i y hi hy
  obtain ⟨g, rfl⟩ := h.low hi hy
  refine wrong_none rfl rfl ?_
  have := full_behind hf (k := i) (by rw [h.len]; omega) (by rw [h.sum (i + 1) (by omega)]; have := h.few; omega) (fun a b => sumV_mono h.ok a b)
  omega
theorem no_may : mayV ⟨[110, 111], 0, 0, 0, 0⟩ = false := by kernel_rfl
theorem jal_may0 : mayV (jalI 0) = true := by kernel_rfl
theorem jal_may1 : mayV (jalI 1) = true := by kernel_rfl
theorem jal_may32 : mayV (jalI 32) = false := by kernel_rfl
theorem RowW.wrong {ws L : List It} {n : Int} {j : Nat} (h : RowW ws L n j) (h5 : j = 5 → 65536 < (ws.length : Int) + n) {r : Nat} (hf : FullAt L r) : wrongE L r ws.length (badI n j) = badE j := by
  have hj := h.jl
  have lx : labX.name ≠ (⟨#[]⟩ : ByteArray) := by decide
  have ln : labX.name ≠ strNo := by decide
  rcases j with _ | _ | _ | _ | _ | _ | _ | _ | _ | _ | j
  · refine wrong_name rfl ?_
    show (!((⟨#[]⟩ : ByteArray).toList == []) && _) = false
    rw [strB []]
    rfl
  · refine wrong_name ?_ ?_
    · exact jal_may0
    · show (labF L L.length strNo).isSome = false
      rw [h.lab ln (fun e => absurd e (by show ¬ (4 : Int) = 1; omega))]
      rfl
  · exact wrong_may rfl
  · refine wrong_may ?_
    show mayV ⟨strNo.toList, 0, 0, 0, 0⟩ = false
    rw [show strNo.toList = [110, 111] from strB _]
    exact no_may
  · refine wrong_may ?_
    show ((!(turnL (⟨#[106, 97, 108]⟩ : ByteArray).toList == []) && _) && _) = false
    rw [strB [106, 97, 108]]
    rfl
  · have e2 : sumV L (ws.length + 1) = (ws.length : Int) + n := by
      rw [sumV_next h.at', h.sum _ (Nat.le_refl _)]
      rfl
    have hr : ws.length = r := by
      have h1 := hf.few
      have h2 := hf.many
      have h3 := hf.le
      have h4 := h5 rfl
      rcases Nat.lt_trichotomy ws.length r with hl | hl | hl
      · have := h1 _ hl
        omega
      · exact hl
      · have h6 := h2 (by rw [h.len]; omega)
        rw [h.sum (r + 1) (by omega)] at h6
        have := h.few
        omega
    subst hr
    exact wrong_full rfl rfl
  · exact wrong_may jal_may32
  · refine wrong_name ?_ ?_
    · exact jal_may1
    · show (labF L L.length ⟨#[]⟩).isSome = false
      rw [h.lab lx (fun e => absurd e (by show ¬ (6 : Int) = 1; omega))]
      rfl
  · exact wrong_may rfl
  · refine wrong_may ?_
    show ((_ && ((4 : Int) == 0)) && _) = false
    simp
  · omega
theorem badE_ne (j : Nat) : badE j ≠ 0 := by
  unfold badE
  split <;> decide
theorem RowW.told {ws L : List It} {n : Int} {j : Nat} (h : RowW ws L n j) (h5 : j = 5 → 65536 < (ws.length : Int) + n) {r : Nat} {at' er : Int} (hw : WrongAt L r at' er) : at' = (ws.length : Int) ∧ er = badE j := by
  have e := h.wrong h5 hw.full
  have := wrong_at hw h.at' (h.ahead hw.full) (by rw [e]; exact badE_ne j)
  rw [e] at this
  exact this
/-- A label twice. -/
def twiceL : List It := [labX, noW, labX]
theorem twice_ok : ∀ x ∈ twiceL, ItOk x := by
  intro x hx
  simp only [twiceL, List.mem_cons, List.not_mem_nil, or_false] at hx
  rcases hx with rfl | rfl | rfl
  · exact labX_ok
  · exact noW_ok
  · exact labX_ok
theorem twice_lab : labF twiceL twiceL.length strX = some 0 := by
  show (if (1 : Int) = 1 ∧ labF twiceL 2 strX = none then updS (labF twiceL 2) strX 2 else labF twiceL 2) strX = some 0
  have e2 : labF twiceL 2 = updS (fun _ => none) strX 0 := rfl
  rw [e2, if_neg (by unfold updS; simp)]
  unfold updS
  simp
theorem twice_told {r : Nat} {at' er : Int} (hw : WrongAt twiceL r at' er) : at' = 2 ∧ er = 6 := by
  have hf := hw.full
  have s1 : ∀ k, k ≤ 3 → sumV twiceL k = 0 := by
    intro k hk
    have : k = 0 ∨ k = 1 ∨ k = 2 ∨ k = 3 := by omega
    rcases this with rfl | rfl | rfl | rfl <;> rfl
  have hr : r = 3 := by
    have h1 := hf.le
    have h2 := hf.many
    have h3 : twiceL.length = 3 := rfl
    rcases Nat.lt_or_ge r 3 with h4 | h4
    · have := h2 (by omega)
      rw [s1 (r + 1) (by omega)] at this
      omega
    · omega
  have m1 : ∀ k, nameOk twiceL k labX = ((0 : Int) == (k : Int)) := by
    intro k
    show (!(strX.toList == []) && (((labF twiceL twiceL.length strX).getD 0) == (k : Int))) = _
    rw [show strX.toList = [120] from strB _, twice_lab]
    rfl
  have e2 : wrongE twiceL r 2 labX = 6 := wrong_name rfl (by rw [m1]; rfl)
  have := wrong_at hw (k := 2) (x := labX) rfl (fun j y hj hy => by
    have : j = 0 ∨ j = 1 := by omega
    rcases this with rfl | rfl
    · cases hy
      exact wrong_none rfl (by rw [m1]; rfl) (by omega)
    · cases hy
      exact wrong_none rfl rfl (by omega)) (by rw [e2]; decide)
  rw [e2] at this
  exact this
end Go.Proofs.Ytpjnefnngmlpjaa
