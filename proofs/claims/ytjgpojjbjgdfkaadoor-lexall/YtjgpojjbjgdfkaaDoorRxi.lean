/-
  footmanref10: Next.
-/
import Derived.Test.YtjgpojjbjgdfkaaDoorRxg
import Derived.Test.YtjgpojjbjgdfkaaDoorRxh
import Derived.Deep.QuietTactic
import Derived.BigQuiet
namespace Go.Proofs.YtjgpojjbjgdfkaaDoor
open Go.RowKit

theorem while_step {S : ByteArray} {g : Int → Bool} {k : Nat} (h : k < S.size) (hg : g (byteV S k) = true) : whileV S g (S.size - k) k = whileV S g (S.size - (k + 1)) (k + 1) := by
  rw [show S.size - k = (S.size - (k + 1)) + 1 by omega]
  conv => lhs; unfold whileV
  rw [hg, decide_eq_true h]
  rfl
theorem while_no {S : ByteArray} {g : Int → Bool} {k : Nat} (h : k < S.size → g (byteV S k) = false) : whileV S g (S.size - k) k = k := by
  by_cases hk : k < S.size
  · rw [show S.size - k = (S.size - (k + 1)) + 1 by omega]
    unfold whileV
    rw [h hk, Bool.and_false]
    rfl
  · rw [show S.size - k = 0 by omega]
    rfl
set_option maxRecDepth 100000 in
set_option maxHeartbeats 4000000 in
/-- Nothing is left. -/
theorem xNextE {S : ByteArray} (hS : S.size ≤ 281474976710656) (x : Int) (p q : Nat) (hps : p ≤ S.size) (hp : p = clampV S x) (hq : q = skipV S S.size p) (hend : q = S.size) (w : World) :
    Calls Tryd.prog 17 #[.string S, .int .i64 x] w fun e w' => ∃ b : Nat, e = .returned (.agg (foundC 0 ⟨#[]⟩ 0 q b)) ∧ b = S.size ∧ Below w.heap.size w w' := by
  have hqs : q ≤ S.size := by rw [hq]; exact skip_le _ _ hps
  have HP : Hid (p = clampV S x) := hp
  have CS : Hid (∀ W, Calls Tryd.prog 23 #[.string S, .int .i64 p] W fun e w' => e = .returned (.int .i64 q) ∧ w' = W) := fun W => by rw [hq]; exact xSkip hS p hps W
  have k2 : (S.size : Int) ≤ 281474976710656 := by omega
  have q0 : (0 : Int) ≤ (q : Int) := by omega
  clear hp hq
  go_enter Tryd.func17, Tryd.ntmps17
  go_wp2_with fail
  have hpe : max 0 (min x (S.size : Int)) = p := by
    rw [HP.out]
    unfold clampV
    omega
  obtain ⟨W, hW⟩ : ∃ W, W = w.alloc (.cells (foundC 0 ⟨#[]⟩ 0 0 0) 42) := ⟨_, rfl⟩
  have hWb : Hid (Below w.heap.size w W) := by rw [hW]; exact (Below.refl _ _).alloc (Nat.le_refl _) _
  have hWk : Hid (W.heap[w.heap.size]? = some (.cells (foundC 0 ⟨#[]⟩ 0 0 0) 42)) := by rw [hW]; exact alloc_at _ _
  unfold foundC at hW
  rw [← hW, hpe]
  clear hW hpe HP
  refine Calls.mono (CS.out _) ?_
  rintro e w1 ⟨rfl, hw1⟩
  rw [hw1]
  clear hw1 w1 CS
  subst hend
  obtain ⟨g1, g2, g3, g4, g5, z1, z2, z3, z4, z5⟩ := found_at hWk.out
  obtain ⟨Y, hY, hYk, hYb⟩ := found_put hWk.out hWb.out (Nat.le_refl _) 0 ⟨#[]⟩ 0 S.size S.size
  obtain ⟨y1, y2, y3, y4, y5, -, -, -, -, -⟩ := found_at hYk
  have HYb : Hid _ := hYb
  clear hYk hYb
  go_wp2_with (rw [← hY])
  exact bodyPost_ret (v := .agg (foundC 0 ⟨#[]⟩ 0 S.size S.size)) (by simp [results, Tryd.results17, go_sem, foundC, y1, y2, y3, y4, y5]) rfl ⟨_, rfl, rfl, HYb.out⟩
set_option maxRecDepth 100000 in
set_option maxHeartbeats 4000000 in
/-- A number. -/
theorem xNextD {S : ByteArray} (hS : S.size ≤ 281474976710656) (x : Int) (p q : Nat) (hps : p ≤ S.size) (hp : p = clampV S x) (hq : q = skipV S S.size p) (hend : q < S.size) (hd : bDigit (byteV S q) = true) {K n : Int} {t : ByteArray} {E : Nat} (hT : numT S q = (K, t, n, E)) (w : World) :
    Calls Tryd.prog 17 #[.string S, .int .i64 x] w fun e w' => ∃ b : Nat, e = .returned (.agg (foundC K t n q b)) ∧ (K ≠ 5 → b = E) ∧ Below w.heap.size w w' := by
  have hqs : q ≤ S.size := by rw [hq]; exact skip_le _ _ hps
  have HP : Hid (p = clampV S x) := hp
  have CS : Hid (∀ W, Calls Tryd.prog 23 #[.string S, .int .i64 p] W fun e w' => e = .returned (.int .i64 q) ∧ w' = W) := fun W => by rw [hq]; exact xSkip hS p hps W
  have k2 : (S.size : Int) ≤ 281474976710656 := by omega
  have q0 : (0 : Int) ≤ (q : Int) := by omega
  clear hp hq
  have CN : Hid (∀ W, Calls Tryd.prog 25 #[.string S, .int .i64 q] W fun e w' => ∃ b : Nat, e = .returned (.agg (foundC K t n q b)) ∧ (K ≠ 5 → b = E) ∧ Below W.heap.size W w') := fun W => xNumber hS q hend hT W
  have CD : Hid _ := xDigit (byteV S q)
  rw [hd] at CD
  have hb := byteV_at hend
  clear hd hT
  go_enter Tryd.func17, Tryd.ntmps17
  go_wp2_with fail
  have hpe : max 0 (min x (S.size : Int)) = p := by
    rw [HP.out]
    unfold clampV
    omega
  obtain ⟨W, hW⟩ : ∃ W, W = w.alloc (.cells (foundC 0 ⟨#[]⟩ 0 0 0) 42) := ⟨_, rfl⟩
  have hWb : Hid (Below w.heap.size w W) := by rw [hW]; exact (Below.refl _ _).alloc (Nat.le_refl _) _
  have hWk : Hid (W.heap[w.heap.size]? = some (.cells (foundC 0 ⟨#[]⟩ 0 0 0) 42)) := by rw [hW]; exact alloc_at _ _
  unfold foundC at hW
  rw [← hW, hpe]
  clear hW hpe HP
  refine Calls.mono (CS.out _) ?_
  rintro e w1 ⟨rfl, hw1⟩
  rw [hw1]
  clear hw1 w1 CS
  have e1 : ((q : Int) == (S.size : Int)) = false := by rw [beq_eq_false_iff_ne]; omega
  have q1 : (q : Int) < (S.size : Int) := by omega
  go_wp2_with fail
  refine Calls.mono (CD.out _) ?_
  rintro e w1 ⟨rfl, hw1⟩
  rw [hw1]
  clear hw1 w1
  go_wp2_with fail
  refine Calls.mono (CN.out _) ?_
  rintro e w2 ⟨b, rfl, hbe, b2⟩
  have K2 : Hid (w2.heap[w.heap.size]? = some (.cells (foundC 0 ⟨#[]⟩ 0 0 0) 42)) := kept_on hWk.out b2
  have B2 : Hid (Below w.heap.size w w2) := hWb.out.trans (b2.mono hWb.out.size)
  have HBE : Hid _ := hbe
  clear b2 hWk hWb CN CD hbe
  obtain ⟨g1, g2, g3, g4, g5, z1, z2, z3, z4, z5⟩ := found_at K2.out
  unfold foundC
  obtain ⟨Y, hY, hYk, hYb⟩ := found_put K2.out B2.out (Nat.le_refl _) K t n q b
  obtain ⟨y1, y2, y3, y4, y5, -, -, -, -, -⟩ := found_at hYk
  have HYb : Hid _ := hYb
  clear hYk hYb
  go_wp2_with (rw [← hY])
  exact bodyPost_ret (v := .agg (foundC K t n q b)) (by simp [results, Tryd.results17, go_sem, foundC, y1, y2, y3, y4, y5]) rfl ⟨_, rfl, HBE.out, HYb.out⟩
set_option maxRecDepth 100000 in
set_option maxHeartbeats 4000000 in
/-- A name, or a word. -/
theorem xNextL {S : ByteArray} (hS : S.size ≤ 281474976710656) (x : Int) (p q : Nat) (hps : p ≤ S.size) (hp : p = clampV S x) (hq : q = skipV S S.size p) (hend : q < S.size) (hd : bDigit (byteV S q) = false) (hl : bLetter (byteV S q) = true) {L : Nat} (hL : whileV S bInName (S.size - q) q = L) {κ : Int} (hκ : (if isWordV (S.extract q L) then (3 : Int) else 2) = κ) (w : World) :
    Calls Tryd.prog 17 #[.string S, .int .i64 x] w fun e w' => ∃ b : Nat, e = .returned (.agg (foundC κ (S.extract q L) 0 q b)) ∧ b = L ∧ Below w.heap.size w w' := by
  have hqs : q ≤ S.size := by rw [hq]; exact skip_le _ _ hps
  have HP : Hid (p = clampV S x) := hp
  have CS : Hid (∀ W, Calls Tryd.prog 23 #[.string S, .int .i64 p] W fun e w' => e = .returned (.int .i64 q) ∧ w' = W) := fun W => by rw [hq]; exact xSkip hS p hps W
  have k2 : (S.size : Int) ≤ 281474976710656 := by omega
  have q0 : (0 : Int) ≤ (q : Int) := by omega
  clear hp hq
  have CD : Hid _ := xDigit (byteV S q)
  rw [hd] at CD
  have CL : Hid _ := xLetter (byteV S q)
  rw [hl] at CL
  have HL : Hid (whileV S bInName (S.size - q) q = L) := hL
  have hLs : L ≤ S.size := by rw [← hL]; exact while_le _ _ hqs
  have CW : Hid _ := xIsWord (S.extract q L)
  have HK : Hid ((if isWordV (S.extract q L) then (3 : Int) else 2) = κ) := hκ
  clear hκ
  have hb := byteV_at hend
  clear hd hl hL
  go_enter Tryd.func17, Tryd.ntmps17
  go_wp2_with fail
  have hpe : max 0 (min x (S.size : Int)) = p := by
    rw [HP.out]
    unfold clampV
    omega
  obtain ⟨W, hW⟩ : ∃ W, W = w.alloc (.cells (foundC 0 ⟨#[]⟩ 0 0 0) 42) := ⟨_, rfl⟩
  have hWb : Hid (Below w.heap.size w W) := by rw [hW]; exact (Below.refl _ _).alloc (Nat.le_refl _) _
  have hWk : Hid (W.heap[w.heap.size]? = some (.cells (foundC 0 ⟨#[]⟩ 0 0 0) 42)) := by rw [hW]; exact alloc_at _ _
  unfold foundC at hW
  rw [← hW, hpe]
  clear hW hpe HP
  refine Calls.mono (CS.out _) ?_
  rintro e w1 ⟨rfl, hw1⟩
  rw [hw1]
  clear hw1 w1 CS
  have e1 : ((q : Int) == (S.size : Int)) = false := by rw [beq_eq_false_iff_ne]; omega
  have q1 : (q : Int) < (S.size : Int) := by omega
  go_wp2_with fail
  refine Calls.mono (CD.out _) ?_
  rintro e w1 ⟨rfl, hw1⟩
  rw [hw1]
  clear hw1 w1
  go_wp2_with fail
  refine Calls.mono (CL.out _) ?_
  rintro e w1 ⟨rfl, hw1⟩
  rw [hw1]
  clear hw1 w1 hb CD CL
  go_wp2_with fail
  go_loopw [5] (fun x wr => ∃ (k : Nat), wr = W ∧ x = .int .i64 k ∧ q ≤ k ∧ k ≤ S.size ∧ Hid (whileV S bInName (S.size - k) k = L)) (fun x _ => S.size - (intOf x).toNat)
  case atStart => exact ⟨q, rfl, rfl, Nat.le_refl _, hqs, HL⟩
  case round =>
    clear HL
    obtain ⟨k, rfl, rfl, h1, h2, hw⟩ := hrel
    have j0 : (0 : Int) ≤ (k : Int) := by omega
    by_cases hk : k < S.size
    · have j1 : (k : Int) < (S.size : Int) := by omega
      have hb := byteV_at hk
      have CD : Hid _ := xDigit (byteV S k)
      have CL : Hid _ := xLetter (byteV S k)
      cases hl : bLetter (byteV S k) with
      | true =>
        rw [hl] at CL
        have HN : Hid (whileV S bInName (S.size - (k + 1)) (k + 1) = L) := (while_step hk (letter_name hl)).symm.trans hw.out
        clear hl hw CD
        go_wp2_with fail
        refine Calls.mono (CL.out _) ?_
        rintro e w1 ⟨rfl, hw1⟩
        rw [hw1]
        clear hw1 w1
        go_wp2_with fail
        exact ⟨⟨k + 1, trivial, by go_num, by omega, by omega, HN⟩, by simp [intOf]; omega⟩
      | false =>
        rw [hl] at CL
        cases hd : bDigit (byteV S k) with
        | true =>
          rw [hd] at CD
          have HN : Hid (whileV S bInName (S.size - (k + 1)) (k + 1) = L) := (while_step hk (by unfold bInName; rw [hd, Bool.or_true])).symm.trans hw.out
          clear hl hw hd
          go_wp2_with fail
          refine Calls.mono (CL.out _) ?_
          rintro e w1 ⟨rfl, hw1⟩
          rw [hw1]
          clear hw1 w1
          go_wp2_with fail
          refine Calls.mono (CD.out _) ?_
          rintro e w1 ⟨rfl, hw1⟩
          rw [hw1]
          clear hw1 w1
          go_wp2_with fail
          exact ⟨⟨k + 1, trivial, by go_num, by omega, by omega, HN⟩, by simp [intOf]; omega⟩
        | false =>
          rw [hd] at CD
          have hkL : k = L := (while_no (g := bInName) (fun _ => by unfold bInName; rw [hl, hd]; rfl)).symm.trans hw.out
          subst hkL
          clear hl hw hd
          have i1 : (q : Int) ≤ (k : Int) := by omega
          have i2 : (k : Int) ≤ (S.size : Int) := by omega
          go_wp2_with fail
          refine Calls.mono (CL.out _) ?_
          rintro e w1 ⟨rfl, hw1⟩
          rw [hw1]
          clear hw1 w1
          go_wp2_with fail
          refine Calls.mono (CD.out _) ?_
          rintro e w1 ⟨rfl, hw1⟩
          rw [hw1]
          clear hw1 w1 CL CD hb hk h1 h2 j1 hS hend
          go_wp2_with fail
          refine Calls.mono (CW.out _) ?_
          rintro e w2 ⟨rfl, b2⟩
          have K2 : Hid (w2.heap[w.heap.size]? = some (.cells (foundC 0 ⟨#[]⟩ 0 0 0) 42)) := kept_on hWk.out b2
          have B2 : Hid (Below w.heap.size w w2) := hWb.out.trans (b2.mono hWb.out.size)
          clear b2 hWk hWb CW
          obtain ⟨g1, g2, g3, g4, g5, z1, z2, z3, z4, z5⟩ := found_at K2.out
          cases hi : isWordV (S.extract q k) with
          | true =>
            have h3 := HK.out
            rw [hi, if_pos rfl] at h3
            subst h3
            clear hi HK
            obtain ⟨Y, hY, hYk, hYb⟩ := found_put K2.out B2.out (Nat.le_refl _) 3 (S.extract q k) 0 q k
            obtain ⟨y1, y2, y3, y4, y5, -, -, -, -, -⟩ := found_at hYk
            have HYb : Hid _ := hYb
            clear hYk hYb
            go_wp2_with (rw [← hY])
            exact bodyPost_ret (v := .agg (foundC 3 (S.extract q k) 0 q k)) (by simp [results, Tryd.results17, go_sem, foundC, y1, y2, y3, y4, y5]) rfl ⟨_, rfl, rfl, HYb.out⟩
          | false =>
            have h3 := HK.out
            rw [hi, if_neg (by decide)] at h3
            subst h3
            clear hi HK
            obtain ⟨Y, hY, hYk, hYb⟩ := found_put K2.out B2.out (Nat.le_refl _) 2 (S.extract q k) 0 q k
            obtain ⟨y1, y2, y3, y4, y5, -, -, -, -, -⟩ := found_at hYk
            have HYb : Hid _ := hYb
            clear hYk hYb
            go_wp2_with (rw [← hY])
            exact bodyPost_ret (v := .agg (foundC 2 (S.extract q k) 0 q k)) (by simp [results, Tryd.results17, go_sem, foundC, y1, y2, y3, y4, y5]) rfl ⟨_, rfl, rfl, HYb.out⟩
    · have hkL : k = L := (while_no (g := bInName) (fun h => absurd h hk)).symm.trans hw.out
      subst hkL
      have j1 : ¬ (k : Int) < (S.size : Int) := by omega
      have i1 : (q : Int) ≤ (k : Int) := by omega
      have i2 : (k : Int) ≤ (S.size : Int) := by omega
      clear hw hk h1 h2 hS hend
      go_wp2_with fail
      refine Calls.mono (CW.out _) ?_
      rintro e w2 ⟨rfl, b2⟩
      have K2 : Hid (w2.heap[w.heap.size]? = some (.cells (foundC 0 ⟨#[]⟩ 0 0 0) 42)) := kept_on hWk.out b2
      have B2 : Hid (Below w.heap.size w w2) := hWb.out.trans (b2.mono hWb.out.size)
      clear b2 hWk hWb CW
      obtain ⟨g1, g2, g3, g4, g5, z1, z2, z3, z4, z5⟩ := found_at K2.out
      cases hi : isWordV (S.extract q k) with
      | true =>
        have h3 := HK.out
        rw [hi, if_pos rfl] at h3
        subst h3
        clear hi HK
        obtain ⟨Y, hY, hYk, hYb⟩ := found_put K2.out B2.out (Nat.le_refl _) 3 (S.extract q k) 0 q k
        obtain ⟨y1, y2, y3, y4, y5, -, -, -, -, -⟩ := found_at hYk
        have HYb : Hid _ := hYb
        clear hYk hYb
        go_wp2_with (rw [← hY])
        exact bodyPost_ret (v := .agg (foundC 3 (S.extract q k) 0 q k)) (by simp [results, Tryd.results17, go_sem, foundC, y1, y2, y3, y4, y5]) rfl ⟨_, rfl, rfl, HYb.out⟩
      | false =>
        have h3 := HK.out
        rw [hi, if_neg (by decide)] at h3
        subst h3
        clear hi HK
        obtain ⟨Y, hY, hYk, hYb⟩ := found_put K2.out B2.out (Nat.le_refl _) 2 (S.extract q k) 0 q k
        obtain ⟨y1, y2, y3, y4, y5, -, -, -, -, -⟩ := found_at hYk
        have HYb : Hid _ := hYb
        clear hYk hYb
        go_wp2_with (rw [← hY])
        exact bodyPost_ret (v := .agg (foundC 2 (S.extract q k) 0 q k)) (by simp [results, Tryd.results17, go_sem, foundC, y1, y2, y3, y4, y5]) rfl ⟨_, rfl, rfl, HYb.out⟩
end Go.Proofs.YtjgpojjbjgdfkaaDoor
