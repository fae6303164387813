/-
  footmanref10: number, way B.
-/
import Derived.Test.YtjgpojjbjgdfkaaDoorRxf
namespace Go.Proofs.YtjgpojjbjgdfkaaDoor
open Go.RowKit

set_option maxRecDepth 100000 in
set_option maxHeartbeats 4000000 in
theorem xNumB {S : ByteArray} (hS : S.size ≤ 281474976710656) (p : Nat) (hA : p + 2 < S.size) (hX : ((S.extract p (p + 2)).toList == [48, 120]) = false) (w : World)
    {q : Nat} (hq : q = whileV S bDigit (S.size - p) p) {K n : Int} {t : ByteArray} (hT : numX S p p 10 q = (K, t, n)) :
    Calls Tryd.prog 25 #[.string S, .int .i64 p] w fun e w' => e = .returned (.agg (foundC K t n p q)) ∧ Below w.heap.size w w' := by
  have q1 : q ≤ S.size := by rw [hq]; exact while_le _ _ (by omega)
  have HQ : Hid (∀ k, p ≤ k → k < q → bDigit (byteV S k) = true) := fun k h1 h2 => while_all _ _ k h1 (by rw [hq] at h2; exact h2)
  have HT : Hid (numX S p p 10 q = (K, t, n)) := hT
  have HZ : Hid (q < S.size → bDigit (byteV S q) = false) := fun h => by rw [hq] at h ⊢; exact while_stop _ _ (by omega) h
  obtain ⟨T, hTT⟩ : ∃ T, T = satM 10 0 (S.extract p q).data.toList := ⟨_, rfl⟩
  have HS : Hid (satM 10 0 (S.extract p q).data.toList = T) := hTT.symm
  have q0 : p ≤ q := by rw [hq]; exact while_ge _ _ _ _
  have k0 : (0 : Int) ≤ (p : Int) := by omega
  have k1 : (p : Int) < (S.size : Int) := by omega
  have k2 : (S.size : Int) ≤ 281474976710656 := by omega
  have k3 : (2 : Int) < (S.size : Int) - (p : Int) := by omega
  clear hT hTT hq
  go_enter Tryd.func25, Tryd.ntmps25
  go_wp2_with fail
  clear hX
  obtain ⟨W, hW⟩ : ∃ W, W = w.alloc (.cells (foundC 0 ⟨#[]⟩ 0 0 0) 42) := ⟨_, rfl⟩
  have hWb : Hid (Below w.heap.size w W) := by rw [hW]; exact (Below.refl _ _).alloc (Nat.le_refl _) _
  have hWk : Hid (W.heap[w.heap.size]? = some (.cells (foundC 0 ⟨#[]⟩ 0 0 0) 42)) := by rw [hW]; exact alloc_at _ _
  unfold foundC at hW
  rw [← hW]
  clear hW
  go_loopw [7, 8] (fun x y wr => ∃ (k acc : Nat), wr = W ∧ x = .int .i64 k ∧ y = .int .i64 acc ∧ p ≤ k ∧ k ≤ q ∧ acc ≤ 4294967296 ∧ Hid (satM 10 acc ((S.extract p q).data.toList.drop (k - p)) = T)) (fun x _ _ => S.size - (intOf x).toNat)
  case atStart => exact ⟨p, 0, rfl, rfl, rfl, Nat.le_refl _, q0, by omega, by rw [Nat.sub_self, List.drop_zero]; exact HS.out⟩
  case round =>
    clear k0 k1 k3
    obtain ⟨k, acc, rfl, rfl, rfl, h1, h2, h3, hs⟩ := hrel
    by_cases hk : k < q
    · have hks : k < S.size := by omega
      have j0 : (0 : Int) ≤ (k : Int) := by omega
      have j1 : (k : Int) < (S.size : Int) := by omega
      have hb := byteV_at hks
      have hdg := HQ.out k h1 hk
      obtain ⟨c, hc, hdr⟩ := ext_drop h1 hk q1
      have CD : Hid _ := xDigit (byteV S k)
      rw [hdg] at CD
      have CH : Hid _ := xHex (byteV S k) (byteV_u8 S k).1 (byteV_u8 S k).2
      have hI : hexI (byteV S k) = hexD c.toNat := by rw [← hc]; exact hexI_D (by rw [hc]; exact digit_hex hdg)
      rw [hI] at CH
      have d1 := hexD_le c
      have HE : Hid (satM 10 (min (acc * 10 + hexD c.toNat) 4294967296) ((S.extract p q).data.toList.drop (k + 1 - p)) = T) := by
        show _ = _
        rw [← hs.out, hdr, satM]
      generalize hexD c.toNat = D at *
      have d0 : (0 : Int) ≤ (D : Int) := by omega
      have a0 : (0 : Int) ≤ (acc : Int) := by omega
      have a1 : (acc : Int) ≤ 4294967296 := by omega
      generalize byteV S k = x at *
      clear hs hdr hI hdg hc
      go_wp2_with fail
      refine Calls.mono (CD.out _) ?_
      rintro e w1 ⟨rfl, hw1⟩
      rw [hw1]
      clear hw1 w1
      go_wp2_with fail
      refine Calls.mono (CH.out _) ?_
      rintro e w1 ⟨rfl, hw1⟩
      rw [hw1]
      clear hw1 w1
      go_wp2_with fail
      exact ⟨⟨k + 1, min (acc * 10 + D) 4294967296, trivial, by go_num, by first | go_num | (congr 1; omega), by omega, by omega, by omega, HE⟩, by simp [intOf]; omega⟩
    · have hkq : k = q := by omega
      subst hkq
      have hT2 : acc = T := by
        have := hs.out
        rw [ext_end, satM] at this
        exact this
      subst hT2
      clear hs h3
      have hsat := sat_num (b := 10) (by omega) (S.extract p k).data.toList 0 (by omega)
      have hsn := HS.out.symm.trans hsat
      have hT3 := HT.out
      unfold numX at hT3
      obtain ⟨g1, g2, g3, g4, g5, z1, z2, z3, z4, z5⟩ := found_at hWk.out
      have j0 : (0 : Int) ≤ (k : Int) := by omega
      have j1 : (p : Int) ≤ (k : Int) := by omega
      have j2 : (k : Int) ≤ (S.size : Int) := by omega
      have p0 : (0 : Int) ≤ (p : Int) := by omega
      cases hO : numM 10 0 (S.extract p k).data.toList with
      | none =>
        rw [hO] at hsn hT3
        simp only [Prod.mk.injEq] at hT3
        obtain ⟨rfl, rfl, rfl⟩ := hT3
        have hacc : acc = 4294967296 := hsn
        clear hsat hsn HT HS hO HQ
        subst hacc
        by_cases hks : k < S.size
        · have j3 : (k : Int) < (S.size : Int) := by omega
          have hb := byteV_at hks
          have CD : Hid _ := xDigit (byteV S k)
          rw [HZ.out hks] at CD
          clear HZ
          go_wp2_with fail
          refine Calls.mono (CD.out _) ?_
          rintro e w1 ⟨rfl, hw1⟩
          rw [hw1]
          clear hw1 w1
          obtain ⟨Y, hY, hYk, hYb⟩ := found_put hWk.out hWb.out (Nat.le_refl _) 5 ⟨#[]⟩ 0 p k
          obtain ⟨y1, y2, y3, y4, y5, -, -, -, -, -⟩ := found_at hYk
          have HYb : Hid _ := hYb
          clear hYk hYb
          go_wp2_with (rw [← hY])
          exact bodyPost_ret (v := .agg (foundC 5 ⟨#[]⟩ 0 p k)) (by simp [results, Tryd.results25, go_sem, foundC, y1, y2, y3, y4, y5]) rfl ⟨rfl, HYb.out⟩
        · have j3 : ¬ (k : Int) < (S.size : Int) := by omega
          clear HZ
          obtain ⟨Y, hY, hYk, hYb⟩ := found_put hWk.out hWb.out (Nat.le_refl _) 5 ⟨#[]⟩ 0 p k
          obtain ⟨y1, y2, y3, y4, y5, -, -, -, -, -⟩ := found_at hYk
          have HYb : Hid _ := hYb
          clear hYk hYb
          go_wp2_with (rw [← hY])
          exact bodyPost_ret (v := .agg (foundC 5 ⟨#[]⟩ 0 p k)) (by simp [results, Tryd.results25, go_sem, foundC, y1, y2, y3, y4, y5]) rfl ⟨rfl, HYb.out⟩
      | some u =>
        rw [hO] at hsn hT3
        dsimp only at hT3
        have hacc : acc = u := hsn
        have hu := num_le _ _ u (by omega) hO
        clear hsat hsn HT HS hO HQ
        subst hacc
        have u2 : decide ((4294967296 : Int) ≤ (acc : Int)) = false := decide_eq_false (by omega)
        have ew : IntKind.u32.wrap (acc : Int) = (acc : Int) := by
          rw [IntKind.wrap_u32]
          omega
        clear hu
        by_cases hks : k < S.size
        · have j3 : (k : Int) < (S.size : Int) := by omega
          have hb := byteV_at hks
          have CD : Hid _ := xDigit (byteV S k)
          have CL : Hid _ := xLetter (byteV S k)
          cases hl : bLetter (byteV S k) with
          | true =>
            rw [hl] at CL
            rw [if_pos ⟨hks, letter_name hl⟩] at hT3
            simp only [Prod.mk.injEq] at hT3
            obtain ⟨rfl, rfl, rfl⟩ := hT3
            rw [HZ.out hks] at CD
            clear HZ hl
            go_wp2_with fail
            refine Calls.mono (CD.out _) ?_
            rintro e w1 ⟨rfl, hw1⟩
            rw [hw1]
            clear hw1 w1
            go_wp2_with fail
            refine Calls.mono (CL.out _) ?_
            rintro e w1 ⟨rfl, hw1⟩
            rw [hw1]
            clear hw1 w1
            obtain ⟨Y, hY, hYk, hYb⟩ := found_put hWk.out hWb.out (Nat.le_refl _) 5 ⟨#[]⟩ 0 p k
            obtain ⟨y1, y2, y3, y4, y5, -, -, -, -, -⟩ := found_at hYk
            have HYb : Hid _ := hYb
            clear hYk hYb
            go_wp2_with (rw [← hY])
            exact bodyPost_ret (v := .agg (foundC 5 ⟨#[]⟩ 0 p k)) (by simp [results, Tryd.results25, go_sem, foundC, y1, y2, y3, y4, y5]) rfl ⟨rfl, HYb.out⟩
          | false =>
            rw [hl] at CL
            rw [if_neg (by unfold bInName; rw [hl, HZ.out hks]; simp)] at hT3
            simp only [Prod.mk.injEq] at hT3
            obtain ⟨rfl, rfl, rfl⟩ := hT3
            rw [HZ.out hks] at CD
            clear HZ hl
            generalize byteV S k = x at *
            go_wp2_with fail
            refine Calls.mono (CD.out _) ?_
            rintro e w1 ⟨rfl, hw1⟩
            rw [hw1]
            clear hw1 w1
            go_wp2_with fail
            refine Calls.mono (CL.out _) ?_
            rintro e w1 ⟨rfl, hw1⟩
            rw [hw1]
            clear hw1 w1
            go_wp2_with fail
            refine Calls.mono (CD.out _) ?_
            rintro e w1 ⟨rfl, hw1⟩
            rw [hw1]
            clear hw1 w1
            clear hb CD CL j3 hks hS hk h2
            obtain ⟨Y, hY, hYk, hYb⟩ := found_put hWk.out hWb.out (Nat.le_refl _) 1 (S.extract p k) acc p k
            obtain ⟨y1, y2, y3, y4, y5, -, -, -, -, -⟩ := found_at hYk
            have HYb : Hid _ := hYb
            clear hYk hYb
            go_wp2_with (rw [← hY])
            exact bodyPost_ret (v := .agg (foundC 1 (S.extract p k) acc p k)) (by simp [results, Tryd.results25, go_sem, foundC, y1, y2, y3, y4, y5]) rfl ⟨rfl, HYb.out⟩
        · have j3 : ¬ (k : Int) < (S.size : Int) := by omega
          rw [if_neg (fun h => hks h.1)] at hT3
          simp only [Prod.mk.injEq] at hT3
          obtain ⟨rfl, rfl, rfl⟩ := hT3
          clear HZ
          obtain ⟨Y, hY, hYk, hYb⟩ := found_put hWk.out hWb.out (Nat.le_refl _) 1 (S.extract p k) acc p k
          obtain ⟨y1, y2, y3, y4, y5, -, -, -, -, -⟩ := found_at hYk
          have HYb : Hid _ := hYb
          clear hYk hYb
          go_wp2_with (rw [← hY])
          exact bodyPost_ret (v := .agg (foundC 1 (S.extract p k) acc p k)) (by simp [results, Tryd.results25, go_sem, foundC, y1, y2, y3, y4, y5]) rfl ⟨rfl, HYb.out⟩
end Go.Proofs.YtjgpojjbjgdfkaaDoor
