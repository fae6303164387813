/-
  footmanref10: words, IsWord.
-/
import Derived.Test.YtjgpojjbjgdfkaaDoorRxb
namespace Go.Proofs.YtjgpojjbjgdfkaaDoor
open Go.RowKit

def wordS (k : Nat) : ByteArray := ⟨(wordL.getD k []).toArray⟩
def wordCells : Array Value := ((List.range 14).map fun k => Value.string (wordS k)).toArray
set_option maxRecDepth 100000 in
set_option maxHeartbeats 4000000 in
theorem xWords (w : World) : Calls Tryd.prog 20 #[] w fun e w' => e = .returned (.slice (some ⟨w.heap.size, 0, none⟩) 14 14) ∧ w'.heap[w.heap.size]? = some (.cells wordCells 9) ∧ Below w.heap.size w w' := by
  go_enter Tryd.func20, Tryd.ntmps20
  go_wp2
  go_ret
  exact ⟨rfl, alloc_at _ _, (Below.refl _ _).alloc (Nat.le_refl _) _⟩
theorem word_cell {k : Nat} (h : k < 14) : wordCells[k]? = some (.string (wordS k)) := by
  unfold wordCells
  simp [h]
theorem word_list (k : Nat) : (wordS k).toList = wordL.getD k [] := by
  unfold wordS
  exact (by simp : (ByteArray.mk (wordL.getD k []).toArray).toList = wordL.getD k [])
set_option maxRecDepth 100000 in
set_option maxHeartbeats 4000000 in
theorem xIsWord (s : ByteArray) (w : World) : Calls Tryd.prog 11 #[.string s] w fun e w' => e = .returned (.bool (isWordV s)) ∧ Below w.heap.size w w' := by
  have C : Hid _ := xWords w
  obtain ⟨R, hR⟩ : ∃ R, R = isWordV s := ⟨_, rfl⟩
  have HR : Hid (R = (wordL.drop 0).any fun x => s.toList == x) := hR
  rw [← hR]
  clear hR
  go_enter Tryd.func11, Tryd.ntmps11
  go_wp2_with fail
  refine Calls.mono C.out ?_
  rintro e W ⟨rfl, hk, hb⟩
  have HK : Hid (W.heap[w.heap.size]? = some (.cells wordCells 9)) := hk
  have HB : Hid (Below w.heap.size w W) := hb
  clear hk hb C
  go_wp2_with fail
  go_loopw [4] (fun x wr => ∃ (k : Nat), wr = W ∧ k ≤ 14 ∧ x = .int .i64 k ∧ Hid (R = (wordL.drop k).any fun x => s.toList == x)) (fun x _ => 14 - (intOf x).toNat)
  case atStart => exact ⟨0, rfl, by omega, rfl, HR⟩
  case round =>
    clear HR
    obtain ⟨k, rfl, hk, rfl, hr⟩ := hrel
    by_cases hlt : k < 14
    · have k0 : (0 : Int) ≤ (k : Int) := by omega
      have k1 : (k : Int) < 14 := by omega
      have c0 : wr.cell? ⟨w.heap.size, k, none⟩ = some (.string (wordS k)) := (cells_of HK.out).1 k _ (word_cell hlt)
      have hd : wordL.drop k = wordL.getD k [] :: wordL.drop (k + 1) := by
        have hl : k < wordL.length := hlt
        rw [List.drop_eq_getElem_cons hl]
        simp [List.getD, List.getElem?_eq_getElem hl]
      cases hq : ((wordS k).toList == s.toList) with
      | true =>
        have e1 : R = true := by
          rw [hr.out, hd, List.any_cons, ← word_list]
          have : s.toList = (wordS k).toList := by simpa using (by simpa using hq : (wordS k).toList = s.toList).symm
          rw [this]
          simp
        clear hr hd
        subst e1
        go_wp2_with fail
        go_ret
        exact ⟨rfl, HB.out⟩
      | false =>
        have HE : Hid (R = (wordL.drop (k + 1)).any fun x => s.toList == x) := by
          show _ = _
          rw [hr.out, hd, List.any_cons, ← word_list]
          have : (s.toList == (wordS k).toList) = false := by
            rw [beq_eq_false_iff_ne] at hq ⊢
            exact fun e => hq e.symm
          rw [this, Bool.false_or]
        clear hr hd
        go_wp2_with fail
        exact ⟨⟨k + 1, trivial, by omega, by go_num, HE⟩, by simp [intOf]; omega⟩
    · have e1 : k = 14 := by omega
      subst e1
      have e2 : R = false := by rw [hr.out]; rfl
      clear hr
      subst e2
      go_wp2_with fail
      go_ret
      exact ⟨rfl, HB.out⟩
end Go.Proofs.YtjgpojjbjgdfkaaDoor
