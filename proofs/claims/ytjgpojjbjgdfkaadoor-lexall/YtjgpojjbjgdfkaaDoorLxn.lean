/-
  Package lex: next.
-/
import Derived.Test.YtjgpojjbjgdfkaaDoorLxk
namespace Go.Proofs.YtjgpojjbjgdfkaaDoor
open Go.RowKit

/-- The token that begins first from p on: kind, text, value, place, and the place behind it. -/
def nextT (S : ByteArray) (p : Nat) : Int × ByteArray × Int × Nat × Nat :=
  if skipV S S.size p = S.size then (0, ⟨#[]⟩, 0, S.size, S.size)
  else if bDigit (byteV S (skipV S S.size p)) then ((numT S (skipV S S.size p)).1, (numT S (skipV S S.size p)).2.1, (numT S (skipV S S.size p)).2.2.1, skipV S S.size p, (numT S (skipV S S.size p)).2.2.2)
  else if bLetter (byteV S (skipV S S.size p)) then (if isWordV (S.extract (skipV S S.size p) (whileV S bInName (S.size - skipV S S.size p) (skipV S S.size p))) then 3 else 2, S.extract (skipV S S.size p) (whileV S bInName (S.size - skipV S S.size p) (skipV S S.size p)), 0, skipV S S.size p, whileV S bInName (S.size - skipV S S.size p) (skipV S S.size p))
  else (signK (signN S (skipV S S.size p)).toNat, S.extract (skipV S S.size p) (skipV S S.size p + (signN S (skipV S S.size p)).toNat), 0, skipV S S.size p, skipV S S.size p + signE (signN S (skipV S S.size p)).toNat)
set_option maxRecDepth 100000 in
set_option maxHeartbeats 4000000 in
theorem lNext {B : Nat} {w : World} {rb : Nat} {S : ByteArray} (h : Rd B w rb S) (hS : S.size ≤ 281474976710656) (p : Nat) (hp : p ≤ S.size) (ev : Value) (hv : w.cell? ⟨1, 0, none⟩ = some ev) (hev : ev = .nilIface ∨ ∃ te pe, ev = .iface te pe)
    {K n : Int} {t : ByteArray} {a E : Nat} (hT : nextT S p = (K, t, n, a, E)) :
    Calls Tryd.prog 22 #[.pointer (some ⟨rb, 0, none⟩), .int .i64 p] w fun e w' => e = .returned (.tuple #[.agg (tokC K t n a), .int .i64 E]) ∧ Only rb w w' ∧ Rd B w' rb S := by
  have hM : S.size ≤ maxLen := by unfold maxLen; omega
  have H : Hid (Rd B w rb S) := h
  have hlt : 1 < w.heap.size := Lib.lt_of_cell hv
  have HV : Hid (w.cell? ⟨1, 0, none⟩ = some ev) := hv
  obtain ⟨q, hq⟩ : ∃ q, q = skipV S S.size p := ⟨_, rfl⟩
  have q1 : q ≤ S.size := by rw [hq]; exact skip_le _ _ hp
  have HQ : Hid (q = skipV S S.size p) := hq
  have HT : Hid (nextT S p = (K, t, n, a, E)) := hT
  unfold nextT at HT
  rw [← hq] at HT
  have hne : Hid (w.heap.size ≠ rb) := by have := h.lt; show _ ≠ _; omega
  have k2 : (S.size : Int) ≤ 281474976710656 := by omega
  clear h hv hT hq
  go_enter Tryd.func22, Tryd.ntmps22
  go_wp2_with fail
  obtain ⟨W, hW⟩ : ∃ W, W = w.alloc (.cells (tokC 0 ⟨#[]⟩ 0 0) 33) := ⟨_, rfl⟩
  have hWb : Hid (Below w.heap.size w W) := by rw [hW]; exact (Below.refl _ _).alloc (Nat.le_refl _) _
  have hWk : Hid (W.heap[w.heap.size]? = some (.cells (tokC 0 ⟨#[]⟩ 0 0) 33)) := by rw [hW]; exact alloc_at _ _
  have HW : Hid (Rd B W rb S) := H.out.kept hWb.out
  have HVW : Hid (W.cell? ⟨1, 0, none⟩ = some ev) := (hWb.out.cell (show (⟨1, 0, none⟩ : Addr).block < w.heap.size from hlt)).trans HV.out
  obtain ⟨m, hm⟩ : ∃ m, RdAt W rb S m := ⟨_, HW.out.at_.choose_spec.1⟩
  have c0 : W.cell? ⟨rb, 0, none⟩ = some (.string S) := (cells_of hm).1 0 _ rfl
  have HMR : Hid (RdAt W rb S m) := hm
  unfold tokC at hW
  rw [← hW]
  clear hW hm
  refine Calls.mono (lSkip HMR.out hM p hp) ?_
  rw [← HQ.out]
  rintro e w1 ⟨rfl, hw1⟩
  rw [hw1]
  clear hw1 w1 HQ
  by_cases hqs : q = S.size
  · have e1 : (q : Int) = (S.size : Int) := by omega
    obtain ⟨rfl, rfl, rfl, rfl, rfl⟩ : K = 0 ∧ t = ⟨#[]⟩ ∧ n = 0 ∧ a = q ∧ E = q := by
      have := HT.out
      rw [if_pos hqs] at this
      simp only [Prod.mk.injEq] at this
      obtain ⟨h1, h2, h3, h4, h5⟩ := this
      exact ⟨h1.symm, h2.symm, h3.symm, by omega, by omega⟩
    clear HT e1 q1 hp
    subst hqs
    have k2 := hWk.out
    have HO2 : Only rb w W := Only.of_below hWb.out
    have HR2 : Rd B W rb S := HW.out
    obtain ⟨g1, g2, g3, g4, z1, z2, z3, z4⟩ := tok_at k2
    obtain ⟨Y, hY, hYk, hYb, hYo⟩ := tok_put2 k2 0 ⟨#[]⟩ 0 S.size
    obtain ⟨y1, y2, y3, y4, -, -, -, -⟩ := tok_at hYk
    have HO3 : Hid (Only rb w Y) := HO2.and hYb
    have HR3 : Hid (Rd B Y rb S) := HR2.put k2 hne.out hYo
    clear hYk hYb hYo k2 HO2 HR2
    go_wp2_with (rw [← hY])
    exact bodyPost_ret (v := .tuple #[.agg (tokC 0 ⟨#[]⟩ 0 S.size), .int .i64 (S.size : Nat)]) (by simp [results, Tryd.results22, go_sem, tokC, y1, y2, y3, y4]) rfl ⟨rfl, HO3.out, HR3.out⟩

  · have e1 : ¬ (q : Int) = (S.size : Int) := by omega
    have hqlt : q < S.size := by omega
    have e2 : (0 : Int) ≤ (q : Int) := by omega
    have e3 : (q : Int) < (S.size : Int) := by omega
    have e4 := byteV_at hqlt
    rw [if_neg hqs] at HT
    clear hqs
    have CD : Hid _ := lDigit (byteV S q)
    cases hD : bDigit (byteV S q) with
    | true =>
      rw [hD] at CD
      obtain ⟨HN, rfl⟩ : Hid (numT S q = (K, t, n, E)) ∧ a = q := by
        have := HT.out
        rw [if_pos hD] at this
        simp only [Prod.mk.injEq] at this
        obtain ⟨h1, h2, h3, h4, h5⟩ := this
        refine ⟨?_, h4.symm⟩
        show _ = _
        rw [← h1, ← h2, ← h3, ← h5]
      clear HT
      go_wp2_with fail
      refine Calls.mono (CD.out _) ?_
      rintro e w1 ⟨rfl, hw1⟩
      rw [hw1]
      clear hw1 w1
      go_wp2_with fail
      refine Calls.mono (lNumber HMR.out hS a hqlt hD ev HVW.out hev HN.out) ?_
      rintro e w2 ⟨rfl, hb⟩
      have k2 := kept_on hWk.out hb
      have HO2 : Only rb w w2 := Only.of_below (below_step hWb.out hb)
      have HR2 : Rd B w2 rb S := HW.out.kept hb
      clear hb
      obtain ⟨g1, g2, g3, g4, z1, z2, z3, z4⟩ := tok_at k2
      obtain ⟨Y, hY, hYk, hYb, hYo⟩ := tok_put2 k2 K t n a
      obtain ⟨y1, y2, y3, y4, -, -, -, -⟩ := tok_at hYk
      have HO3 : Hid (Only rb w Y) := HO2.and hYb
      have HR3 : Hid (Rd B Y rb S) := HR2.put k2 hne.out hYo
      clear hYk hYb hYo k2 HO2 HR2
      unfold tokC
      go_wp2_with (rw [← hY])
      exact bodyPost_ret (v := .tuple #[.agg (tokC K t n a), .int .i64 (E : Nat)]) (by simp [results, Tryd.results22, go_sem, tokC, y1, y2, y3, y4]) rfl ⟨rfl, HO3.out, HR3.out⟩
    | false =>
      rw [hD] at CD
      have CL : Hid _ := lLetter (byteV S q)
      rw [if_neg (by rw [hD]; exact Bool.false_ne_true)] at HT
      cases hL : bLetter (byteV S q) with
      | true =>
        rw [hL] at CL
        rw [if_pos hL] at HT
        obtain ⟨HK, HX, rfl, rfl, HE⟩ : Hid (K = if isWordV t then 3 else 2) ∧ Hid (t = S.extract q E) ∧ n = 0 ∧ a = q ∧ Hid (E = whileV S bInName (S.size - q) q) := by
          have := HT.out
          simp only [Prod.mk.injEq] at this
          obtain ⟨h1, h2, h3, h4, h5⟩ := this
          refine ⟨?_, ?_, h3.symm, h4.symm, h5.symm⟩
          · show _ = _
            rw [← h1, ← h2]
          · show _ = _
            rw [← h2, ← h5]
        clear HT
        go_wp2_with fail
        refine Calls.mono (CD.out _) ?_
        rintro e w1 ⟨rfl, hw1⟩
        rw [hw1]
        clear hw1 w1
        go_wp2_with fail
        refine Calls.mono (CL.out _) ?_
        rintro e w1 ⟨rfl, hw1⟩
        rw [hw1]
        clear hw1 w1
        go_wp2_with fail
        refine Calls.mono (lName HMR.out hS a hqlt HE.out HX.out HK.out) ?_
        rintro e w2 ⟨rfl, hb⟩
        have k2 := kept_on hWk.out hb
        have HO2 : Only rb w w2 := Only.of_below (below_step hWb.out hb)
        have HR2 : Rd B w2 rb S := HW.out.kept hb
        clear hb
        obtain ⟨g1, g2, g3, g4, z1, z2, z3, z4⟩ := tok_at k2
        obtain ⟨Y, hY, hYk, hYb, hYo⟩ := tok_put2 k2 K t 0 a
        obtain ⟨y1, y2, y3, y4, -, -, -, -⟩ := tok_at hYk
        have HO3 : Hid (Only rb w Y) := HO2.and hYb
        have HR3 : Hid (Rd B Y rb S) := HR2.put k2 hne.out hYo
        clear hYk hYb hYo k2 HO2 HR2
        unfold tokC
        go_wp2_with (rw [← hY])
        exact bodyPost_ret (v := .tuple #[.agg (tokC K t 0 a), .int .i64 (E : Nat)]) (by simp [results, Tryd.results22, go_sem, tokC, y1, y2, y3, y4]) rfl ⟨rfl, HO3.out, HR3.out⟩
      | false =>
        rw [hL] at CL
        rw [if_neg (by rw [hL]; exact Bool.false_ne_true)] at HT
        obtain ⟨N, hN, _, _⟩ := signN_len hqlt
        rw [hN, Int.toNat_natCast] at HT
        have HN : Hid (signN S q = N) := hN
        clear hN
        obtain ⟨HK, HX, rfl, rfl, HE⟩ : Hid (K = signK N) ∧ Hid (t = S.extract q (q + N)) ∧ n = 0 ∧ a = q ∧ Hid (E = q + signE N) := by
          have := HT.out
          simp only [Prod.mk.injEq] at this
          obtain ⟨h1, h2, h3, h4, h5⟩ := this
          exact ⟨h1.symm, h2.symm, h3.symm, h4.symm, h5.symm⟩
        clear HT
        go_wp2_with fail
        refine Calls.mono (CD.out _) ?_
        rintro e w1 ⟨rfl, hw1⟩
        rw [hw1]
        clear hw1 w1
        go_wp2_with fail
        refine Calls.mono (CL.out _) ?_
        rintro e w1 ⟨rfl, hw1⟩
        rw [hw1]
        clear hw1 w1
        go_wp2_with fail
        refine Calls.mono (lSign HW.out hS a hqlt HN.out HX.out HK.out HE.out) ?_
        rintro e w2 ⟨rfl, hO, hR⟩
        have k2 := hO.kept hWk.out hne.out
        have HO2 : Only rb w w2 := (Only.of_below hWb.out).trans hO
        have HR2 : Rd B w2 rb S := hR
        clear hO hR
        obtain ⟨g1, g2, g3, g4, z1, z2, z3, z4⟩ := tok_at k2
        obtain ⟨Y, hY, hYk, hYb, hYo⟩ := tok_put2 k2 K t 0 a
        obtain ⟨y1, y2, y3, y4, -, -, -, -⟩ := tok_at hYk
        have HO3 : Hid (Only rb w Y) := HO2.and hYb
        have HR3 : Hid (Rd B Y rb S) := HR2.put k2 hne.out hYo
        clear hYk hYb hYo k2 HO2 HR2
        unfold tokC
        go_wp2_with (rw [← hY])
        exact bodyPost_ret (v := .tuple #[.agg (tokC K t 0 a), .int .i64 (E : Nat)]) (by simp [results, Tryd.results22, go_sem, tokC, y1, y2, y3, y4]) rfl ⟨rfl, HO3.out, HR3.out⟩
end Go.Proofs.YtjgpojjbjgdfkaaDoor
