/-
  Package asm: firstWrong.
-/
import Derived.Test.YtpjnefnngmlpjaaAsf
namespace Go.Proofs.Ytpjnefnngmlpjaa
open Go.RowKit

def wrongE (xs : List It) (r k : Nat) (x : It) : Int := if mayIt x = false then 1 else if nameOk xs k x = false then 6 else if k = r then 9 else 0
/-- The first item that is wrong, and how. -/
structure WrongAt (xs : List It) (r : Nat) (at' e : Int) : Prop where
  full : FullAt xs r
  is : (∃ (k : Nat) (x : It), xs[k]? = some x ∧ at' = k ∧ e = wrongE xs r k x ∧ e ≠ 0 ∧ ∀ j y, j < k → xs[j]? = some y → wrongE xs r j y = 0) ∨ (at' = 0 ∧ e = 0 ∧ ∀ j y, xs[j]? = some y → wrongE xs r j y = 0)
set_option maxRecDepth 100000 in
set_option maxHeartbeats 2000000 in
theorem aWrong {w : World} {pb b off : Nat} {sa : Option Addr} {cap g gf : Nat} {base : Int} {xs : List It} (h : ProgAt w pb b off sa cap g gf base xs) (hl : xs.length ≤ 1000000) (ho : ∀ x ∈ xs, ItOk x) :
    Calls Try.prog 23 #[.pointer (some ⟨pb, 0, none⟩)] w fun e w' => ∃ (r : Nat) (at' er : Int), WrongAt xs r at' er ∧ e = .returned (.tuple #[.int .i64 at', .int .i64 er]) ∧ Below w.heap.size w w' := by
  have HP : Hid _ := h
  have CF : Hid _ := aFull h hl ho
  have CM : Hid _ := aMay
  have CN : Hid _ := fun (w' : World) (hw : Below w.heap.size w w') (k : Nat) (x : It) (hx : xs[k]? = some x) => aName (h.below hw) hl k x hx (ho x (List.mem_of_getElem? hx))
  obtain ⟨fi, hfi⟩ := undIt
  have HFI : Hid _ := hfi
  clear h ho hfi
  generalize hln : xs.length = n at *
  have HLN : Hid (xs.length = n) := hln
  clear hln
  go_enter Try.func23, Try.ntmps23
  go_wp2_with fail
  refine Calls.mono CF.out ?_
  rintro e w1 ⟨r, hF, rfl, b1⟩
  have HF : Hid _ := hF
  have B1 : Hid _ := b1
  have c1 := (HP.out.below b1).slice
  rw [HLN.out] at c1
  clear hF b1 CF
  go_wp2_with fail
  go_loopw [14] (fun i wr => ∃ (k : Nat) (V : World), V = wr ∧ k ≤ n ∧ i = .int .i64 k ∧ Hid ((∀ j y, j < k → xs[j]? = some y → wrongE xs r j y = 0) ∧ Below w.heap.size w V)) (fun i _ => n - (intOf i).toNat)
  case atStart => exact ⟨0, _, rfl, Nat.zero_le _, rfl, fun j y hj => by omega, B1.out⟩
  case round =>
    clear c1 B1
    obtain ⟨k, V, rfl, hk, rfl, hr⟩ := hrel
    by_cases hlt : k < n
    · obtain ⟨x, hx⟩ : ∃ x, xs[k]? = some x := ⟨_, List.getElem?_eq_getElem (by rw [HLN.out]; exact hlt)⟩
      have HX : Hid _ := hx
      have I1 : Hid _ := (HP.out.below hr.out.2).its
      obtain ⟨ea, hb⟩ := I1.out.at' (I1.out.lt hx)
      subst ea
      have k0 : (0 : Int) ≤ (k : Int) := by omega
      have k1 : (k : Int) < (n : Int) := by omega
      clear hb hx
      go_wp2_with (first | (refine wpList_mids (by rfl) 34 (.tmp 17) rfl b (off + k * 9) rfl x.cells _ (I1.out.row k x HX.out) HFI.out rfl (by rw [It.size]; exact infoIt) ?_) | (refine wpList_fill rfl 34 (.tmp 6) (.tmp 18) rfl rfl x.cells rfl 34 _ (by rw [It.size]; exact infoIt) (by rw [It.size]; rfl) (It.one x) ?_))
      intro V2 R2 b2
      have B2 : Hid _ := below_step hr.out.2 b2
      clear b2 I1
      go_wp2_with (first | (refine wpList_row (by rfl) 34 (.tmp 6) rfl V.heap.size rfl 34 x.cells _ R2 HFI.out rfl (by rw [It.size]; exact infoIt) ?_))
      refine (CM.out x _).mono ?_
      rintro e w3 ⟨rfl, b3⟩
      have B3 : Hid _ := below_step B2.out b3
      clear b3 B2 R2
      cases hmy : mayIt x
      · have e1 : (1 : Int) = wrongE xs r k x := by unfold wrongE; rw [if_pos hmy]
        have E1 : Hid _ := e1
        clear e1 hmy
        go_wp2_with fail
        go_ret2
        exact ⟨r, k, 1, ⟨HF.out, Or.inl ⟨k, x, HX.out, rfl, E1.out, by decide, hr.out.1⟩⟩, rfl, B3.out⟩
      · have CX : Hid _ := CN.out _ B3.out k x HX.out
        go_wp2_with fail
        refine Calls.mono CX.out ?_
        rintro e w4 ⟨rfl, b4⟩
        have B4 : Hid _ := below_step B3.out b4
        clear b4 B3 CX
        cases hnm : nameOk xs k x
        · have e1 : (6 : Int) = wrongE xs r k x := by unfold wrongE; rw [if_neg (by rw [hmy]; decide), if_pos hnm]
          have E1 : Hid _ := e1
          clear e1 hmy hnm
          go_wp2_with fail
          go_ret2
          exact ⟨r, k, 6, ⟨HF.out, Or.inl ⟨k, x, HX.out, rfl, E1.out, by decide, hr.out.1⟩⟩, rfl, B4.out⟩
        · by_cases hkr : k = r
          · have e1 : (9 : Int) = wrongE xs r k x := by unfold wrongE; rw [if_neg (by rw [hmy]; decide), if_neg (by rw [hnm]; decide), if_pos hkr]
            have E1 : Hid _ := e1
            have hkb : ((k : Int) == (r : Int)) = true := by simp [hkr]
            have HKR : Hid _ := hkr
            clear e1 hmy hnm hkr
            go_wp2_with fail
            go_ret2
            exact ⟨r, k, 9, ⟨HF.out, Or.inl ⟨k, x, HX.out, rfl, E1.out, by decide, hr.out.1⟩⟩, rfl, B4.out⟩
          · have e1 : wrongE xs r k x = 0 := by unfold wrongE; rw [if_neg (by rw [hmy]; decide), if_neg (by rw [hnm]; decide), if_neg hkr]
            have E1 : Hid _ := e1
            have hkb : ((k : Int) == (r : Int)) = false := by simp; omega
            clear e1 hmy hnm hkr
            go_wp2_with fail
            exact ⟨⟨k + 1, _, rfl, hlt, by go_num, fun j y hj hy => by
              by_cases hj2 : j < k
              · exact hr.out.1 j y hj2 hy
              · have : j = k := by omega
                subst this
                rw [HX.out] at hy
                cases hy
                exact E1.out, B4.out⟩, by simp [intOf]; omega⟩
    · have hkn : k = n := by omega
      subst hkn
      go_wp2_with fail
      go_ret2
      exact ⟨r, 0, 0, ⟨HF.out, Or.inr ⟨rfl, rfl, fun j y hy => hr.out.1 j y (by have := (List.getElem?_eq_some_iff.1 hy).1; rw [HLN.out] at this; exact this) hy⟩⟩, rfl, hr.out.2⟩
end Go.Proofs.Ytpjnefnngmlpjaa
