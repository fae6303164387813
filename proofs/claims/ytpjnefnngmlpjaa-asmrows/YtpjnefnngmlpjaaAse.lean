/-
  Package asm: size, firstFull, starts, none of the branches far.
-/
import Derived.Test.YtpjnefnngmlpjaaAsc
namespace Go.Proofs.Ytpjnefnngmlpjaa
open Go.RowKit

set_option maxRecDepth 100000 in
set_option maxHeartbeats 1000000 in
theorem aSize {w : World} {pb b off : Nat} {sa : Option Addr} {cap g gf : Nat} {base : Int} {xs : List It} (h : ProgAt w pb b off sa cap g gf base xs) (hl : xs.length ≤ 1000000) (k : Nat) (x : It) (hx : xs[k]? = some x) (ho : ItOk x) :
    Calls Try.prog 53 #[.pointer (some ⟨pb, 0, none⟩), .int .i64 k] w fun e w' => e = .returned (.int .i64 (sizeV x)) ∧ Below w.heap.size w w' := by
  have hk : k < xs.length := (List.getElem?_eq_some_iff.1 hx).1
  have CF : Hid _ := fun w' (hw : Below w.heap.size w w') => aFar (h.below hw) hl k x hx
  have CS : Hid _ := aShort x.n ho.n
  have c1 := h.slice
  obtain ⟨ea, hb⟩ := h.its.at' (by omega)
  subst ea
  have HR : Hid _ := h.its.row k x hx
  obtain ⟨fi, hfi⟩ := undIt
  have HFI : Hid _ := hfi
  have k0 : (0 : Int) ≤ (k : Int) := by omega
  have k1 : (k : Int) < (xs.length : Int) := by omega
  have hn0 := ho.n.1
  have hn1 := ho.n.2
  have vn : wrap64 x.n = x.n := wrap64_id (by omega) (by omega)
  have HOK : Hid _ := ho
  clear h hb hx hfi ho
  generalize xs.length = n at *
  have HSZ : Hid (sizeV x = if x.kind = 2 ∨ x.kind = 4 then 1 else if x.kind = 3 then 1 else if x.kind = 5 then (if shortV x.n then 1 else 2) else if x.kind = 6 then 2 else if x.kind = 7 then (x.wl : Int) else if x.kind = 8 then x.n else 0) := rfl
  obtain ⟨z, hz⟩ : ∃ z, z = sizeV x := ⟨_, rfl⟩
  rw [← hz]
  have HZ : Hid _ := hz
  clear hz
  go_enter Try.func53, Try.ntmps53
  go_wp2_with (first | (refine wpList_mids (by rfl) 34 (.tmp 11) rfl b (off + k * 9) rfl x.cells _ HR.out HFI.out rfl (by rw [It.size]; exact infoIt) ?_) | (refine wpList_fill rfl 34 (.tmp 5) (.tmp 12) rfl rfl x.cells rfl 34 _ (by rw [It.size]; exact infoIt) (by rw [It.size]; rfl) (It.one x) ?_))
  intro V R B
  obtain ⟨ic, _, _⟩ := cells_of R
  have d0 := ic 0 (.int .i64 x.kind) rfl
  have d7 := ic 7 (.int .u32 x.n) rfl
  have d8 := ic 8 (.slice x.wa x.wl x.wc) rfl
  have HB : Hid _ := B
  clear ic R B HR HFI
  by_cases q1 : x.kind = 2 ∨ x.kind = 4
  · have e : z = 1 := by rw [HZ.out, HSZ.out, if_pos q1]
    have E : Hid _ := e
    clear e
    rcases q1 with q | q
    all_goals
      go_wp2
      go_ret
      exact ⟨by rw [E.out]; rfl, HB.out⟩
  by_cases q3 : x.kind = 3
  · have e : z = 1 := by rw [HZ.out, HSZ.out, if_neg q1, if_pos q3]
    have E : Hid _ := e
    clear e q1
    go_wp2_with fail
    refine (CF.out _ HB.out).mono ?_
    rintro e w1 ⟨rfl, b1⟩
    have B1 : Hid _ := below_step HB.out b1
    clear b1
    go_wp2
    go_ret
    exact ⟨by rw [E.out]; rfl, B1.out⟩
  by_cases q5 : x.kind = 5
  · cases hs : shortV x.n
    · have e : z = 2 := by rw [HZ.out, HSZ.out, if_neg q1, if_neg q3, if_pos q5, hs]; rfl
      rw [hs] at CS
      have E : Hid _ := e
      clear e q1 q3
      go_wp2_with fail
      refine (CS.out _).mono ?_
      rintro e w1 ⟨rfl, hw1⟩
      rw [hw1]
      clear hw1 w1
      go_wp2
      go_ret
      exact ⟨by rw [E.out]; rfl, HB.out⟩
    · have e : z = 1 := by rw [HZ.out, HSZ.out, if_neg q1, if_neg q3, if_pos q5, hs]; rfl
      rw [hs] at CS
      have E : Hid _ := e
      clear e q1 q3
      go_wp2_with fail
      refine (CS.out _).mono ?_
      rintro e w1 ⟨rfl, hw1⟩
      rw [hw1]
      clear hw1 w1
      go_wp2
      go_ret
      exact ⟨by rw [E.out]; rfl, HB.out⟩
  by_cases q6 : x.kind = 6
  · have e : z = 2 := by rw [HZ.out, HSZ.out, if_neg q1, if_neg q3, if_neg q5, if_pos q6]
    have E : Hid _ := e
    clear e q1 q3 q5
    go_wp2
    go_ret
    exact ⟨by rw [E.out]; rfl, HB.out⟩
  by_cases q7 : x.kind = 7
  · have e : z = x.wl := by rw [HZ.out, HSZ.out, if_neg q1, if_neg q3, if_neg q5, if_neg q6, if_pos q7]
    have E : Hid _ := e
    clear e q1 q3 q5 q6
    go_wp2
    go_ret
    exact ⟨by rw [E.out]; rfl, HB.out⟩
  by_cases q8 : x.kind = 8
  · have e : z = x.n := by rw [HZ.out, HSZ.out, if_neg q1, if_neg q3, if_neg q5, if_neg q6, if_neg q7, if_pos q8]
    have E : Hid _ := e
    clear e q1 q3 q5 q6 q7
    go_wp2
    go_ret
    exact ⟨by rw [E.out]; rfl, HB.out⟩
  have e : z = 0 := by rw [HZ.out, HSZ.out, if_neg q1, if_neg q3, if_neg q5, if_neg q6, if_neg q7, if_neg q8]
  have E : Hid _ := e
  have r2 : (x.kind == 2) = false := by simp; omega
  have r3 : (x.kind == 3) = false := by simp; omega
  have r4 : (x.kind == 4) = false := by simp; omega
  have r5 : (x.kind == 5) = false := by simp; omega
  have r6 : (x.kind == 6) = false := by simp; omega
  have r7 : (x.kind == 7) = false := by simp; omega
  have r8 : (x.kind == 8) = false := by simp; omega
  clear e q1 q3 q5 q6 q7 q8
  go_wp2
  go_ret
  exact ⟨by rw [E.out]; rfl, HB.out⟩
/-- How many words stand ahead of the k-th item. -/
def sumV (xs : List It) : Nat → Int
  | 0 => 0
  | k + 1 => sumV xs k + (match xs[k]? with | some x => sizeV x | none => 0)
theorem sumV_next {xs : List It} {k : Nat} {x : It} (hx : xs[k]? = some x) : sumV xs (k + 1) = sumV xs k + sizeV x := by
  show sumV xs k + (match xs[k]? with | some x => sizeV x | none => 0) = _
  rw [hx]
theorem sumV_bd {xs : List It} (ho : ∀ x ∈ xs, ItOk x) : ∀ k, 0 ≤ sumV xs k ∧ sumV xs k ≤ 4294967296 * k
  | 0 => by
    show (0 : Int) ≤ 0 ∧ (0 : Int) ≤ _
    omega
  | k + 1 => by
    have h := sumV_bd ho k
    cases hx : xs[k]? with
    | none =>
      have : sumV xs (k + 1) = sumV xs k + 0 := by
        show sumV xs k + (match xs[k]? with | some x => sizeV x | none => 0) = _
        rw [hx]
      omega
    | some x =>
      have := sumV_next hx
      have := sizeV_le (ho x (List.mem_of_getElem? hx))
      omega
/-- The first item with which there are too many words. -/
structure FullAt (xs : List It) (r : Nat) : Prop where
  le : r ≤ xs.length
  few : ∀ j, j < r → sumV xs (j + 1) ≤ 65536
  many : r < xs.length → 65536 < sumV xs (r + 1)
set_option maxRecDepth 100000 in
set_option maxHeartbeats 2000000 in
theorem aFull {w : World} {pb b off : Nat} {sa : Option Addr} {cap g gf : Nat} {base : Int} {xs : List It} (h : ProgAt w pb b off sa cap g gf base xs) (hl : xs.length ≤ 1000000) (ho : ∀ x ∈ xs, ItOk x) :
    Calls Try.prog 25 #[.pointer (some ⟨pb, 0, none⟩)] w fun e w' => ∃ r : Nat, FullAt xs r ∧ e = .returned (.int .i64 r) ∧ Below w.heap.size w w' := by
  have HP : Hid _ := h
  have HO : Hid _ := ho
  have HSB : Hid _ := sumV_bd ho
  have c1 := h.slice
  have CZ : Hid _ := fun (w' : World) (hw : Below w.heap.size w w') (k : Nat) (x : It) (hx : xs[k]? = some x) => aSize (h.below hw) hl k x hx (ho x (List.mem_of_getElem? hx))
  clear h ho
  generalize hln : xs.length = n at *
  have HLN : Hid (xs.length = n) := hln
  clear hln
  go_enter Try.func25, Try.ntmps25
  go_wp2_with fail
  go_loopw [3, 10] (fun s i wr => ∃ (k : Nat) (V : World), V = wr ∧ k ≤ n ∧ i = .int .i64 k ∧ s = .int .i64 (sumV xs k) ∧ Hid ((∀ j, j < k → sumV xs (j + 1) ≤ 65536) ∧ Below w.heap.size w V)) (fun _ i _ => n - (intOf i).toNat)
  case atStart => exact ⟨0, _, rfl, Nat.zero_le _, rfl, rfl, fun j hj => by omega, Below.refl _ _⟩
  case round =>
    obtain ⟨k, V, rfl, hk, rfl, rfl, hr⟩ := hrel
    have c2 := (HP.out.below hr.out.2).slice
    rw [HLN.out] at c2
    have hs := HSB.out k
    by_cases hlt : k < n
    · obtain ⟨x, hx⟩ : ∃ x, xs[k]? = some x := ⟨_, List.getElem?_eq_getElem (by rw [HLN.out]; exact hlt)⟩
      have CX : Hid _ := CZ.out _ hr.out.2 k x hx
      have hz := sizeV_le (HO.out x (List.mem_of_getElem? hx))
      have e1 := sumV_next hx
      have E1 : Hid _ := e1
      obtain ⟨y, hy⟩ : ∃ y, y = sumV xs k := ⟨_, rfl⟩
      obtain ⟨z, hz2⟩ : ∃ z, z = sizeV x := ⟨_, rfl⟩
      rw [← hy] at hs
      rw [← hz2] at hz CX
      rw [← hy]
      have HY : Hid _ := hy
      have HZ2 : Hid _ := hz2
      have v1 : wrap64 (y + z) = y + z := wrap64_id (by omega) (by omega)
      clear hx e1 CZ hy hz2 c1
      go_wp2_with fail
      refine Calls.mono CX.out ?_
      rintro e w1 ⟨rfl, b1⟩
      have B1 : Hid _ := below_step hr.out.2 b1
      clear b1 CX
      by_cases hm : 65536 < y + z
      · go_wp2_with fail
        go_ret
        exact ⟨k, ⟨by rw [HLN.out]; omega, hr.out.1, fun _ => by rw [E1.out, ← HY.out, ← HZ2.out]; exact hm⟩, rfl, B1.out⟩
      · go_wp2_with fail
        exact ⟨⟨k + 1, _, rfl, hlt, by go_num, by rw [E1.out, ← HY.out, ← HZ2.out], fun j hj => by
          by_cases hj2 : j < k
          · exact hr.out.1 j hj2
          · have : j = k := by omega
            subst this
            rw [E1.out, ← HY.out, ← HZ2.out]
            omega, B1.out⟩, by simp [intOf]; omega⟩
    · have hkn : k = n := by omega
      subst hkn
      generalize sumV xs k = y at *
      go_wp2_with fail
      go_ret
      exact ⟨k, ⟨by rw [HLN.out]; exact Nat.le_refl _, hr.out.1, fun e => by rw [HLN.out] at e; omega⟩, rfl, hr.out.2⟩
end Go.Proofs.Ytpjnefnngmlpjaa
