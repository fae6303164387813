/-
  footmanref10: Next: a sign, or none; Next whole.
-/
import Derived.Test.YtjgpojjbjgdfkaaDoorRxi
namespace Go.Proofs.YtjgpojjbjgdfkaaDoor
open Go.RowKit

/-- What the document finds where no blank, digit or letter stands. -/
def signT (S : ByteArray) (q : Nat) : Int × ByteArray × Nat := (signK (signN S q).toNat, S.extract q (q + (signN S q).toNat), q + signE (signN S q).toNat)
theorem signT_some {S : ByteArray} {q k : Nat} (hk : k < 26) (hm : ∀ j, j < k → matB (byteV S q) (byteV S (q + 1)) (sgAt j) = false) (hq : q < S.size) (hl : (signS k).size ≤ S.size - q) (he : (S.extract q (q + (signS k).size)).toList = (signS k).toList) :
    signT S q = (4, signS k, q + (signS k).size) := by
  obtain ⟨h0, h1⟩ := sgAt_list hk
  have hN : signN S q = ((signS k).size : Nat) := by
    rw [signN_sN, sg_some hk hm (by rw [sign_there hq hk, decide_eq_true hl, he]; simp), h0]
  have hp : (signS k).size ≠ 0 := by
    rw [← h0]
    rcases h1 with ⟨e, _⟩ | ⟨e, _⟩ <;> omega
  unfold signT
  rw [hN, Int.toNat_natCast, bytes_ext he]
  unfold signK signE
  rw [if_neg hp, if_neg hp]
theorem signT_none {S : ByteArray} {q : Nat} (hm : ∀ j, j < 26 → matB (byteV S q) (byteV S (q + 1)) (sgAt j) = false) : signT S q = (5, ⟨#[]⟩, q + 1) := by
  unfold signT
  rw [signN_sN, sg_none hm]
  show (signK 0, S.extract q (q + 0), q + signE 0) = _
  rw [Nat.add_zero, ByteArray.extract_same]
  rfl
set_option maxRecDepth 100000 in
set_option maxHeartbeats 4000000 in
theorem xNextS {S : ByteArray} (hS : S.size ≤ 281474976710656) (x : Int) (p q : Nat) (hps : p ≤ S.size) (hp : p = clampV S x) (hq : q = skipV S S.size p) (hend : q < S.size) (hd : bDigit (byteV S q) = false) (hl : bLetter (byteV S q) = false) {K : Int} {t : ByteArray} {E : Nat} (hT : signT S q = (K, t, E)) (w : World) :
    Calls Tryd.prog 17 #[.string S, .int .i64 x] w fun e w' => ∃ b : Nat, e = .returned (.agg (foundC K t 0 q b)) ∧ (K ≠ 5 → b = E) ∧ Below w.heap.size w w' := by
  have hqs : q ≤ S.size := by rw [hq]; exact skip_le _ _ hps
  have HP : Hid (p = clampV S x) := hp
  have CS : Hid (∀ W, Calls Tryd.prog 23 #[.string S, .int .i64 p] W fun e w' => e = .returned (.int .i64 q) ∧ w' = W) := fun W => by rw [hq]; exact xSkip hS p hps W
  have k2 : (S.size : Int) ≤ 281474976710656 := by omega
  have q0 : (0 : Int) ≤ (q : Int) := by omega
  clear hp hq
  have CD : Hid _ := xDigit (byteV S q)
  rw [hd] at CD
  have CL : Hid _ := xLetter (byteV S q)
  rw [hl] at CL
  have CG : Hid _ := xSigns
  have HT : Hid (signT S q = (K, t, E)) := hT
  have hb := byteV_at hend
  clear hd hl hT
  go_enter Tryd.func17, Tryd.ntmps17
  go_wp2_with fail
  have hpe : max 0 (min x (S.size : Int)) = p := by
    rw [HP.out]
    unfold clampV
    omega
  obtain ⟨W, hW⟩ : ∃ W, W = w.alloc (.cells (foundC 0 ⟨#[]⟩ 0 0 0) 42) := ⟨_, rfl⟩
  have hWb : Hid (Below w.heap.size w W) := by rw [hW]; exact (Below.refl _ _).alloc (Nat.le_refl _) _
  have hWk : Hid (W.heap[w.heap.size]? = some (.cells (foundC 0 ⟨#[]⟩ 0 0 0) 42)) := by rw [hW]; exact alloc_at _ _
  unfold foundC at hW
  rw [← hW, hpe]
  clear hW hpe HP
  refine Calls.mono (CS.out _) ?_
  rintro e w1 ⟨rfl, hw1⟩
  rw [hw1]
  clear hw1 w1 CS
  have e1 : ((q : Int) == (S.size : Int)) = false := by rw [beq_eq_false_iff_ne]; omega
  have q1 : (q : Int) < (S.size : Int) := by omega
  go_wp2_with fail
  refine Calls.mono (CD.out _) ?_
  rintro e w1 ⟨rfl, hw1⟩
  rw [hw1]
  clear hw1 w1
  go_wp2_with fail
  refine Calls.mono (CL.out _) ?_
  rintro e w1 ⟨rfl, hw1⟩
  rw [hw1]
  clear hw1 w1 hb CD CL
  go_wp2_with fail
  refine Calls.mono (CG.out _) ?_
  rintro e w2 ⟨rfl, hk2, b2⟩
  have K2 : Hid (w2.heap[w.heap.size]? = some (.cells (foundC 0 ⟨#[]⟩ 0 0 0) 42)) := kept_on hWk.out b2
  have B2 : Hid (Below w.heap.size w w2) := hWb.out.trans (b2.mono hWb.out.size)
  have HG : Hid (w2.heap[W.heap.size]? = some (.cells signCells 9)) := hk2
  generalize W.heap.size = gb at *
  clear b2 hWk hWb CG hk2
  go_wp2_with fail
  go_loopw [8] (fun x wr => ∃ (k : Nat), x = .int .i64 k ∧ k ≤ 26 ∧ Hid (Below w2.heap.size w2 wr) ∧ Hid (∀ j, j < k → matB (byteV S q) (byteV S (q + 1)) (sgAt j) = false)) (fun x _ => 26 - (intOf x).toNat)
  case atStart => exact ⟨0, rfl, by omega, Below.refl _ _, fun j h => by omega⟩
  case round =>
    obtain ⟨k, rfl, hk, hB, hM⟩ := hrel
    have HM : Hid _ := hM
    clear hM
    have k0 : (0 : Int) ≤ (k : Int) := by omega
    by_cases hk26 : k < 26
    · have k1 : (k : Int) < 26 := by omega
      have c0 : wr.cell? ⟨gb, k, none⟩ = some (.string (signS k)) := (cells_of (kept_on HG.out hB.out)).1 k _ (sign_cell hk26)
      have n2 : (signS k).size ≤ 2 := by
        obtain ⟨h0, h1⟩ := sgAt_list hk26
        rw [← h0]
        rcases h1 with ⟨e, _⟩ | ⟨e, _⟩ <;> omega
      have HSome : Hid ((signS k).size ≤ S.size - q → (S.extract q (q + (signS k).size)).toList = (signS k).toList → 4 = K ∧ signS k = t ∧ q + (signS k).size = E) := fun h1 h2 => by
        have := (signT_some hk26 HM.out hend h1 h2).symm.trans HT.out
        simpa only [Prod.mk.injEq] using this
      have HNext : Hid (((decide ((signS k).size ≤ S.size - q) && ((S.extract q (q + (signS k).size)).toList == (signS k).toList)) = false) → ∀ j, j < k + 1 → matB (byteV S q) (byteV S (q + 1)) (sgAt j) = false) := fun h j hj => by
        rcases Nat.lt_or_ge j k with h1 | h1
        · exact HM.out j h1
        · obtain rfl : j = k := by omega
          rw [sign_there hend hk26]
          exact h
      clear HM
      have K3 : Hid (wr.heap[w.heap.size]? = some (.cells (foundC 0 ⟨#[]⟩ 0 0 0) 42)) := kept_on K2.out hB.out
      have B3 : Hid (Below w.heap.size w wr) := B2.out.trans (hB.out.mono B2.out.size)
      generalize signS k = u at *
      have u0 : (0 : Int) ≤ (u.size : Int) := by omega
      have u1 : (u.size : Int) ≤ 2 := by omega
      by_cases hlen : u.size ≤ S.size - q
      · have hd : decide ((u.size : Int) ≤ (S.size : Int) - (q : Int)) = true := decide_eq_true (by omega)
        have u2 : (q : Int) + (u.size : Int) ≤ (S.size : Int) := by omega
        have hn2 : ((q : Int) + (u.size : Int)).toNat = q + u.size := by omega
        have ew : IntKind.i64.wrap ((q : Int) + (u.size : Int)) = (q : Int) + (u.size : Int) := by
          rw [IntKind.wrap_i64]
          omega
        have ew2 : IntKind.i64.wrap ((S.size : Int) - (q : Int)) = (S.size : Int) - (q : Int) := by
          rw [IntKind.wrap_i64]
          omega
        cases hm : ((S.extract q (q + u.size)).toList == u.toList) with
        | true =>
          obtain ⟨rfl, rfl, rfl⟩ := HSome.out hlen (by simpa using hm)
          clear HSome HNext hlen hk n2 hS
          go_wp2_with fail
          go_quiet (fail)
          have K4 : Hid ((wr.drewN nq).heap[w.heap.size]? = some (.cells (foundC 0 ⟨#[]⟩ 0 0 0) 42)) := K3.out
          have B4 : Hid (Below w.heap.size w (wr.drewN nq)) := below_drewN B3.out nq
          have c1 : (wr.drewN nq).cell? ⟨gb, k, none⟩ = some (.string u) := c0
          generalize wr.drewN nq = V at *
          clear c0 K3 B3
          obtain ⟨g1, g2, g3, g4, g5, z1, z2, z3, z4, z5⟩ := found_at K4.out
          obtain ⟨Y, hY, hYk, hYb⟩ := found_put K4.out B4.out (Nat.le_refl _) 4 u 0 q ((q + u.size : Nat) : Int)
          obtain ⟨y1, y2, y3, y4, y5, -, -, -, -, -⟩ := found_at hYk
          have HYb : Hid _ := hYb
          clear hYk hYb
          have hqs : ((q + u.size : Nat) : Int) = (q : Int) + (u.size : Int) := by omega
          rw [hqs] at hY y5
          go_wp2_with (rw [← hY])
          refine bodyPost_ret (v := .agg (foundC 4 u 0 q ((q + u.size : Nat) : Int))) ?_ rfl ⟨q + u.size, rfl, fun _ => rfl, HYb.out⟩
          rw [hqs]
          simp [results, Tryd.results17, go_sem, foundC, y1, y2, y3, y4, y5]
        | false =>
          have HM : Hid _ := HNext.out (by rw [hm, Bool.and_false])
          clear HSome HNext hlen hk n2 hS K3 B3
          go_wp2_with fail
          go_quiet (fail)
          have B4 : Hid (Below w2.heap.size w2 (wr.drewN nq)) := below_drewN hB.out nq
          go_wp2_with fail
          exact ⟨⟨k + 1, by go_num, by omega, B4, HM⟩, by simp [intOf]; omega⟩
      · have hd : decide ((u.size : Int) ≤ (S.size : Int) - (q : Int)) = false := decide_eq_false (by omega)
        have HM : Hid _ := HNext.out (by rw [decide_eq_false hlen, Bool.false_and])
        have ew2 : IntKind.i64.wrap ((S.size : Int) - (q : Int)) = (S.size : Int) - (q : Int) := by
          rw [IntKind.wrap_i64]
          omega
        clear HSome HNext hlen hk n2 hS K3 B3
        go_wp2_with fail
        go_quiet (fail)
        have B4 : Hid (Below w2.heap.size w2 (wr.drewN nq)) := below_drewN hB.out nq
        go_wp2_with fail
        exact ⟨⟨k + 1, by go_num, by omega, B4, HM⟩, by simp [intOf]; omega⟩
    · obtain rfl : k = 26 := by omega
      have hT2 := (signT_none HM.out).symm.trans HT.out
      simp only [Prod.mk.injEq] at hT2
      obtain ⟨rfl, rfl, rfl⟩ := hT2
      have K3 : Hid (wr.heap[w.heap.size]? = some (.cells (foundC 0 ⟨#[]⟩ 0 0 0) 42)) := kept_on K2.out hB.out
      have B3 : Hid (Below w.heap.size w wr) := B2.out.trans (hB.out.mono B2.out.size)
      clear hk hk26 HM
      obtain ⟨g1, g2, g3, g4, g5, z1, z2, z3, z4, z5⟩ := found_at K3.out
      obtain ⟨Y, hY, hYk, hYb⟩ := found_put K3.out B3.out (Nat.le_refl _) 5 ⟨#[]⟩ 0 q q
      obtain ⟨y1, y2, y3, y4, y5, -, -, -, -, -⟩ := found_at hYk
      have HYb : Hid _ := hYb
      clear hYk hYb
      go_wp2_with (rw [← hY])
      exact bodyPost_ret (v := .agg (foundC 5 ⟨#[]⟩ 0 q q)) (by simp [results, Tryd.results17, go_sem, foundC, y1, y2, y3, y4, y5]) rfl ⟨_, rfl, fun h => absurd rfl h, HYb.out⟩
/-- The document's Next: the reader's, but that of a bad one the place behind may be another. -/
theorem xNext {w : World} {S : ByteArray} (hS : S.size ≤ 281474976710656) (x : Int) {K n : Int} {t : ByteArray} {a E : Nat} (hT : nextT S (clampV S x) = (K, t, n, a, E)) :
    Calls Tryd.prog 17 #[.string S, .int .i64 x] w fun e w' => ∃ b : Nat, e = .returned (.agg (foundC K t n a b)) ∧ (K ≠ 5 → b = E) ∧ Below w.heap.size w w' := by
  have hps := clamp_le S x
  have hqs := skip_le (S := S) S.size (clampV S x) hps
  unfold nextT at hT
  by_cases h1 : skipV S S.size (clampV S x) = S.size
  · rw [if_pos h1] at hT
    simp only [Prod.mk.injEq] at hT
    obtain ⟨rfl, rfl, rfl, rfl, rfl⟩ := hT
    refine (xNextE hS x _ _ hps rfl rfl h1 w).mono fun e w' ⟨b, h2, h3, h4⟩ => ⟨b, ?_, fun _ => h3, h4⟩
    rw [h1] at h2
    exact h2
  · rw [if_neg h1] at hT
    have h1' : skipV S S.size (clampV S x) < S.size := by omega
    cases hd : bDigit (byteV S (skipV S S.size (clampV S x))) with
    | true =>
      rw [hd, if_pos rfl] at hT
      obtain ⟨K', t', n', E', hN⟩ : ∃ K t n E, numT S (skipV S S.size (clampV S x)) = (K, t, n, E) := ⟨_, _, _, _, rfl⟩
      rw [hN] at hT
      simp only [Prod.mk.injEq] at hT
      obtain ⟨rfl, rfl, rfl, rfl, rfl⟩ := hT
      exact xNextD hS x _ _ hps rfl rfl h1' hd hN w
    | false =>
      rw [hd, if_neg (by decide)] at hT
      cases hl : bLetter (byteV S (skipV S S.size (clampV S x))) with
      | true =>
        rw [hl, if_pos rfl] at hT
        simp only [Prod.mk.injEq] at hT
        obtain ⟨hk, rfl, rfl, rfl, rfl⟩ := hT
        exact (xNextL hS x _ _ hps rfl rfl h1' hd hl rfl hk w).mono fun e w' ⟨b, h2, h3, h4⟩ => ⟨b, h2, fun _ => h3, h4⟩
      | false =>
        rw [hl, if_neg (by decide)] at hT
        simp only [Prod.mk.injEq] at hT
        obtain ⟨rfl, rfl, rfl, rfl, rfl⟩ := hT
        exact xNextS hS x _ _ hps rfl rfl h1' hd hl rfl w
end Go.Proofs.YtjgpojjbjgdfkaaDoor
