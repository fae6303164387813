/-
  Package lex: number.
-/
import Derived.Test.YtjgpojjbjgdfkaaDoorLxj
namespace Go.Proofs.YtjgpojjbjgdfkaaDoor
open Go.RowKit

def hexX (S : ByteArray) (p : Nat) : Bool := Lib.hasPrefix (S.extract p S.size).data.toList [48, 120]
def hexEnd (S : ByteArray) (p : Nat) : Nat := whileV S bHex (S.size - (p + 2)) (p + 2)
def isHexN (S : ByteArray) (p : Nat) : Bool := hexX S p && decide (p + 2 < hexEnd S p)
/-- What a number tells whose digits stand from d to q: its kind, text, value, and the place behind it. -/
def numW (S : ByteArray) (p d b q : Nat) : Int × ByteArray × Int × Nat := match numM b 0 (S.extract d q).data.toList with
  | some u => if q < whileV S bInName (S.size - q) q then (5, ⟨#[]⟩, 0, whileV S bInName (S.size - q) q) else (1, S.extract p q, u, q)
  | none => (5, ⟨#[]⟩, 0, whileV S bInName (S.size - q) q)
def numT (S : ByteArray) (p : Nat) : Int × ByteArray × Int × Nat := if isHexN S p then numW S p (p + 2) 16 (hexEnd S p) else numW S p p 10 (whileV S bDigit (S.size - p) p)
theorem hexX_size {S : ByteArray} {p : Nat} (h : hexX S p = true) : p + 2 ≤ S.size := by
  unfold hexX Lib.hasPrefix at h
  have h1 := (List.isPrefixOf_iff_prefix.1 h).length_le
  have h2 := Lib.size_eq (S.extract p S.size)
  rw [ByteArray.size_extract] at h2
  simp only [List.length_cons, List.length_nil] at h1
  omega
theorem neqErr (N : Nat) (w : World) : (binOp BinOp.neq 58 (.iface 71 (.pointer (some ⟨N, 0, none⟩))) .nilIface).run Tryd.prog w = .ok (.bool true) w := by kernel_rfl
set_option maxRecDepth 100000 in
set_option maxHeartbeats 4000000 in
theorem lNumber {w : World} {rb : Nat} {S : ByteArray} {m : Option Nat} (h : RdAt w rb S m) (hS : S.size ≤ 281474976710656) (p : Nat) (hp : p < S.size) (hd : bDigit (byteV S p) = true) (ev : Value) (hv : w.cell? ⟨1, 0, none⟩ = some ev) (hev : ev = .nilIface ∨ ∃ te pe, ev = .iface te pe)
    {K n : Int} {t : ByteArray} {E : Nat} (hT : numT S p = (K, t, n, E)) :
    Calls Tryd.prog 30 #[.pointer (some ⟨rb, 0, none⟩), .int .i64 p] w fun e w' => e = .returned (.tuple #[.agg (tokC K t n p), .int .i64 E]) ∧ Below w.heap.size w w' := by
  have hM : S.size ≤ maxLen := by unfold maxLen; omega
  have H : Hid _ := h
  have HV : Hid _ := hv
  have hlt : 1 < w.heap.size := Lib.lt_of_cell hv
  have HT : Hid _ := hT
  obtain ⟨q0, hq0⟩ : ∃ q0, q0 = whileV S bDigit (S.size - p) p := ⟨_, rfl⟩
  have HQ : Hid (q0 = whileV S bDigit (S.size - p) p) := hq0
  have a0 : p + 1 ≤ q0 := by rw [hq0, show S.size - p = (S.size - p - 1) + 1 by omega]; exact while_on hp hd
  have a1 : q0 ≤ S.size := by rw [hq0]; exact while_le _ _ (by omega)
  have AD : Hid (DigOk 10 (S.extract p q0).data.toList) := dig_of (fun k h1 h2 => while_all _ _ k h1 (by rw [hq0] at h2; exact h2)) a1
  have CP : Hid (∀ w, Calls Tryd.prog 38 #[.string (S.extract p S.size), .string ⟨#[48, 120]⟩] w fun e w' => e = .returned (.bool (hexX S p)) ∧ w' = w) := fun w => Tryd.strings_HasPrefix _ _ w
  have k0 : (0 : Int) ≤ (p : Int) := by omega
  have k1 : (p : Int) < (S.size : Int) := by omega
  have k2 : (S.size : Int) ≤ 281474976710656 := by omega
  clear h hT hq0 hv hd
  go_enter Tryd.func30, Tryd.ntmps30
  go_wp2_with fail
  obtain ⟨W, hW⟩ : ∃ W, W = w.alloc (.cells (tokC 0 ⟨#[]⟩ 0 0) 33) := ⟨_, rfl⟩
  have hWb : Hid (Below w.heap.size w W) := by rw [hW]; exact (Below.refl _ _).alloc (Nat.le_refl _) _
  have hWk : Hid (W.heap[w.heap.size]? = some (.cells (tokC 0 ⟨#[]⟩ 0 0) 33)) := by rw [hW]; exact alloc_at _ _
  have HW : Hid (RdAt W rb S m) := kept_on H.out hWb.out
  have HVW : Hid (W.cell? ⟨1, 0, none⟩ = some ev) := (hWb.out.cell (show (⟨1, 0, none⟩ : Addr).block < w.heap.size from hlt)).trans HV.out
  have c0 : W.cell? ⟨rb, 0, none⟩ = some (.string S) := (cells_of HW.out).1 0 _ rfl
  unfold tokC at hW
  rw [← hW]
  clear hW
  refine Calls.mono (lWhileD HW.out hM p (by omega)) ?_
  rw [← HQ.out]
  rintro e w1 ⟨rfl, hw1⟩
  rw [hw1]
  clear hw1 w1
  go_wp2_with fail
  refine Calls.mono (CP.out _) ?_
  rintro e w1 ⟨rfl, hw1⟩
  rw [hw1]
  clear hw1 w1
  cases hX : hexX S p with
  | false =>
    have HX : isHexN S p = false := by unfold isHexN; rw [hX]; rfl
    have DG : Hid (DigOk 10 (S.extract p q0).data.toList) := AD.out
    clear AD CP
    have HT2 : Hid ((K, t, n, E) = numW S p p 10 q0) := by
      show _ = _
      rw [← HT.out]
      unfold numT
      rw [HX]
      rw [← HQ.out]; rfl
    clear HT HQ
    unfold numW at HT2
    have b0 : (0 : Int) ≤ (p : Int) := by omega
    have b1 : (p : Int) ≤ ((q0 : Nat) : Int) := by omega
    have b2 : ((q0 : Nat) : Int) ≤ (S.size : Int) := by omega
    have hsz : (S.extract p q0).size ≠ 0 := by rw [ByteArray.size_extract]; omega
    have hsm : (S.extract p q0).size ≤ 281474976710656 := by rw [ByteArray.size_extract]; omega
    obtain ⟨en, hen⟩ : ∃ en, en = whileV S bInName (S.size - q0) q0 := ⟨_, rfl⟩
    have HE : Hid (en = whileV S bInName (S.size - q0) q0) := hen
    have e0 : q0 ≤ en := by rw [hen]; exact while_ge _ _ _ _
    rw [← hen] at HT2
    clear hen
    cases hO : numM 10 0 (S.extract p q0).data.toList with
    | none =>
      rw [hO] at HT2
      have CU : Hid _ := puRange (b := 10) _ hsz hsm DG.out hO W ev HVW.out hev
      obtain ⟨rfl, rfl, rfl, rfl⟩ : K = 5 ∧ t = ⟨#[]⟩ ∧ n = 0 ∧ E = en := by
        have := HT2.out
        simp only [Prod.mk.injEq] at this
        exact this
      clear HT2 hO hsz hsm
      go_wp2_with fail
      refine Calls.mono CU.out ?_
      rintro e w2 ⟨N, rfl, hb⟩
      have hn := neqErr N
      have k3 := kept_on hWk.out hb
      have hB2 := below_step hWb.out hb
      go_wp2_with fail
      refine Calls.mono (lWhileN (kept_on HW.out hb) hM q0 (by omega)) ?_
      rw [← HE.out]
      rintro e w3 ⟨rfl, rfl⟩
      go_wp2_with fail
      refine Calls.mono (lBad p _) ?_
      rintro e w4 ⟨rfl, hb4⟩
      unfold tokC
      have k4 := kept_on k3 hb4
      obtain ⟨g1, g2, g3, g4, z1, z2, z3, z4⟩ := tok_at k4
      obtain ⟨Y, hY, hYk, hYb⟩ := tok_put k4 (below_step hB2 hb4) (Nat.le_refl _) 5 ⟨#[]⟩ 0 p
      obtain ⟨y1, y2, y3, y4, -, -, -, -⟩ := tok_at hYk
      have HYb : Hid _ := hYb
      clear hYk hYb k4 k3 hB2 hb4 hb
      go_wp2_with (rw [← hY])
      exact bodyPost_ret (v := .tuple #[.agg (tokC 5 ⟨#[]⟩ 0 p), .int .i64 (E : Nat)]) (by simp [results, Tryd.results30, go_sem, tokC, y1, y2, y3, y4]) rfl ⟨rfl, HYb.out⟩
    | some u =>
      rw [hO] at HT2
      have CU : Hid _ := puOk (b := 10) _ hsz hsm DG.out hO W
      have hu := num_le _ _ u (by omega) hO
      have hu1 : (u : Int) ≤ 4294967295 := by omega
      have hu0 : (0 : Int) ≤ (u : Int) := by omega
      clear hO hsz hsm
      by_cases hlt2 : q0 < en
      · have g1 : ((q0 : Nat) : Int) < (en : Int) := by omega
        obtain ⟨rfl, rfl, rfl, rfl⟩ : K = 5 ∧ t = ⟨#[]⟩ ∧ n = 0 ∧ E = en := by
          have := HT2.out
          simp only [if_pos hlt2, Prod.mk.injEq] at this
          exact this
        clear HT2
        go_wp2_with fail
        refine Calls.mono CU.out ?_
        rintro e w2 ⟨rfl, hb⟩
        have k3 := kept_on hWk.out hb
        have hB2 := below_step hWb.out hb
        go_wp2_with fail
        refine Calls.mono (lWhileN (kept_on HW.out hb) hM q0 (by omega)) ?_
        rw [← HE.out]
        rintro e w3 ⟨rfl, rfl⟩
        go_wp2_with fail
        refine Calls.mono (lBad p _) ?_
        rintro e w4 ⟨rfl, hb4⟩
        unfold tokC
        have k4 := kept_on k3 hb4
        obtain ⟨g1, g2, g3, g4, z1, z2, z3, z4⟩ := tok_at k4
        obtain ⟨Y, hY, hYk, hYb⟩ := tok_put k4 (below_step hB2 hb4) (Nat.le_refl _) 5 ⟨#[]⟩ 0 p
        obtain ⟨y1, y2, y3, y4, -, -, -, -⟩ := tok_at hYk
        have HYb : Hid _ := hYb
        clear hYk hYb k4 k3 hB2 hb4 hb
        go_wp2_with (rw [← hY])
        exact bodyPost_ret (v := .tuple #[.agg (tokC 5 ⟨#[]⟩ 0 p), .int .i64 (E : Nat)]) (by simp [results, Tryd.results30, go_sem, tokC, y1, y2, y3, y4]) rfl ⟨rfl, HYb.out⟩
      · have g1 : ¬ ((q0 : Nat) : Int) < (en : Int) := by omega
        obtain ⟨rfl, HTX, rfl, rfl⟩ : K = 1 ∧ Hid (t = S.extract p q0) ∧ n = u ∧ E = q0 := by
          have := HT2.out
          simp only [if_neg hlt2, Prod.mk.injEq] at this
          exact this
        clear HT2
        go_wp2_with fail
        refine Calls.mono CU.out ?_
        rintro e w2 ⟨rfl, hb⟩
        have k3 := kept_on hWk.out hb
        have hB2 := below_step hWb.out hb
        go_wp2_with fail
        refine Calls.mono (lWhileN (kept_on HW.out hb) hM E (by omega)) ?_
        rw [← HE.out]
        rintro e w3 ⟨rfl, rfl⟩
        go_wp2_with fail
        refine Calls.mono (lText (kept_on HW.out hb) hS p E (by omega) (by omega)) ?_
        rw [← HTX.out]
        rintro e w4 ⟨rfl, hb4⟩
        have k4 := kept_on k3 hb4
        obtain ⟨g1, g2, g3, g4, z1, z2, z3, z4⟩ := tok_at k4
        obtain ⟨Y, hY, hYk, hYb⟩ := tok_put k4 (below_step hB2 hb4) (Nat.le_refl _) 1 t u p
        obtain ⟨y1, y2, y3, y4, -, -, -, -⟩ := tok_at hYk
        have HYb : Hid _ := hYb
        clear hYk hYb k4 k3 hB2 hb4 hb
        go_wp2_with (rw [← hY])
        exact bodyPost_ret (v := .tuple #[.agg (tokC 1 t u p), .int .i64 (E : Nat)]) (by simp [results, Tryd.results30, go_sem, tokC, y1, y2, y3, y4]) rfl ⟨rfl, HYb.out⟩
  | true =>
    have h2 := hexX_size hX
    obtain ⟨q1, hq1⟩ : ∃ q1, q1 = hexEnd S p := ⟨_, rfl⟩
    obtain ⟨d, hdd⟩ : ∃ d, d = p + 2 := ⟨_, rfl⟩
    have HQ1 : Hid (q1 = whileV S bHex (S.size - d) d) := by rw [hdd]; exact hq1
    have c1 : d ≤ q1 := by rw [HQ1.out]; exact while_ge _ _ _ _
    have c2 : q1 ≤ S.size := by rw [HQ1.out]; exact while_le _ _ (by omega)
    have hds : d ≤ S.size := by omega
    have e3 : IntKind.i64.wrap ((p : Int) + 2) = (d : Int) := by
      rw [hdd, IntKind.wrap_i64]
      omega
    have DX : Hid (DigOk 16 (S.extract d q1).data.toList) := hex_of (fun k h1 h3 => while_all _ _ k h1 (by rw [HQ1.out] at h3; exact h3)) c2
    have HD : Hid (d = p + 2) := hdd
    have HH : Hid (q1 = hexEnd S p) := hq1
    have hpd : p ≤ d := by omega
    clear hq1 hdd h2
    go_wp2_with fail
    refine Calls.mono (lWhileX HW.out hM d hds) ?_
    rw [← HQ1.out]
    rintro e w1 ⟨rfl, hw1⟩
    rw [hw1]
    clear hw1 w1
    by_cases hlt3 : d < q1
    · have g0 : (d : Int) < (q1 : Int) := by omega
      have HX : isHexN S p = true := by
        unfold isHexN
        rw [hX, ← HH.out, ← HD.out, decide_eq_true hlt3]
        rfl
      have DG : Hid (DigOk 16 (S.extract d q1).data.toList) := DX.out
      clear AD CP DX HQ1
      have HT2 : Hid ((K, t, n, E) = numW S p d 16 q1) := by
        show _ = _
        rw [← HT.out]
        unfold numT
        rw [HX]
        rw [HD.out, HH.out]; rfl
      clear HT HQ
      unfold numW at HT2
      have b0 : (0 : Int) ≤ (d : Int) := by omega
      have b1 : (d : Int) ≤ ((q1 : Nat) : Int) := by omega
      have b2 : ((q1 : Nat) : Int) ≤ (S.size : Int) := by omega
      have hsz : (S.extract d q1).size ≠ 0 := by rw [ByteArray.size_extract]; omega
      have hsm : (S.extract d q1).size ≤ 281474976710656 := by rw [ByteArray.size_extract]; omega
      obtain ⟨en, hen⟩ : ∃ en, en = whileV S bInName (S.size - q1) q1 := ⟨_, rfl⟩
      have HE : Hid (en = whileV S bInName (S.size - q1) q1) := hen
      have e0 : q1 ≤ en := by rw [hen]; exact while_ge _ _ _ _
      rw [← hen] at HT2
      clear hen
      cases hO : numM 16 0 (S.extract d q1).data.toList with
      | none =>
        rw [hO] at HT2
        have CU : Hid _ := puRange (b := 16) _ hsz hsm DG.out hO W ev HVW.out hev
        obtain ⟨rfl, rfl, rfl, rfl⟩ : K = 5 ∧ t = ⟨#[]⟩ ∧ n = 0 ∧ E = en := by
          have := HT2.out
          simp only [Prod.mk.injEq] at this
          exact this
        clear HT2 hO hsz hsm
        go_wp2_with fail
        refine Calls.mono CU.out ?_
        rintro e w2 ⟨N, rfl, hb⟩
        have hn := neqErr N
        have k3 := kept_on hWk.out hb
        have hB2 := below_step hWb.out hb
        go_wp2_with fail
        refine Calls.mono (lWhileN (kept_on HW.out hb) hM q1 (by omega)) ?_
        rw [← HE.out]
        rintro e w3 ⟨rfl, rfl⟩
        go_wp2_with fail
        refine Calls.mono (lBad p _) ?_
        rintro e w4 ⟨rfl, hb4⟩
        unfold tokC
        have k4 := kept_on k3 hb4
        obtain ⟨g1, g2, g3, g4, z1, z2, z3, z4⟩ := tok_at k4
        obtain ⟨Y, hY, hYk, hYb⟩ := tok_put k4 (below_step hB2 hb4) (Nat.le_refl _) 5 ⟨#[]⟩ 0 p
        obtain ⟨y1, y2, y3, y4, -, -, -, -⟩ := tok_at hYk
        have HYb : Hid _ := hYb
        clear hYk hYb k4 k3 hB2 hb4 hb
        go_wp2_with (rw [← hY])
        exact bodyPost_ret (v := .tuple #[.agg (tokC 5 ⟨#[]⟩ 0 p), .int .i64 (E : Nat)]) (by simp [results, Tryd.results30, go_sem, tokC, y1, y2, y3, y4]) rfl ⟨rfl, HYb.out⟩
      | some u =>
        rw [hO] at HT2
        have CU : Hid _ := puOk (b := 16) _ hsz hsm DG.out hO W
        have hu := num_le _ _ u (by omega) hO
        have hu1 : (u : Int) ≤ 4294967295 := by omega
        have hu0 : (0 : Int) ≤ (u : Int) := by omega
        clear hO hsz hsm
        by_cases hlt2 : q1 < en
        · have g1 : ((q1 : Nat) : Int) < (en : Int) := by omega
          obtain ⟨rfl, rfl, rfl, rfl⟩ : K = 5 ∧ t = ⟨#[]⟩ ∧ n = 0 ∧ E = en := by
            have := HT2.out
            simp only [if_pos hlt2, Prod.mk.injEq] at this
            exact this
          clear HT2
          go_wp2_with fail
          refine Calls.mono CU.out ?_
          rintro e w2 ⟨rfl, hb⟩
          have k3 := kept_on hWk.out hb
          have hB2 := below_step hWb.out hb
          go_wp2_with fail
          refine Calls.mono (lWhileN (kept_on HW.out hb) hM q1 (by omega)) ?_
          rw [← HE.out]
          rintro e w3 ⟨rfl, rfl⟩
          go_wp2_with fail
          refine Calls.mono (lBad p _) ?_
          rintro e w4 ⟨rfl, hb4⟩
          unfold tokC
          have k4 := kept_on k3 hb4
          obtain ⟨g1, g2, g3, g4, z1, z2, z3, z4⟩ := tok_at k4
          obtain ⟨Y, hY, hYk, hYb⟩ := tok_put k4 (below_step hB2 hb4) (Nat.le_refl _) 5 ⟨#[]⟩ 0 p
          obtain ⟨y1, y2, y3, y4, -, -, -, -⟩ := tok_at hYk
          have HYb : Hid _ := hYb
          clear hYk hYb k4 k3 hB2 hb4 hb
          go_wp2_with (rw [← hY])
          exact bodyPost_ret (v := .tuple #[.agg (tokC 5 ⟨#[]⟩ 0 p), .int .i64 (E : Nat)]) (by simp [results, Tryd.results30, go_sem, tokC, y1, y2, y3, y4]) rfl ⟨rfl, HYb.out⟩
        · have g1 : ¬ ((q1 : Nat) : Int) < (en : Int) := by omega
          obtain ⟨rfl, HTX, rfl, rfl⟩ : K = 1 ∧ Hid (t = S.extract p q1) ∧ n = u ∧ E = q1 := by
            have := HT2.out
            simp only [if_neg hlt2, Prod.mk.injEq] at this
            exact this
          clear HT2
          go_wp2_with fail
          refine Calls.mono CU.out ?_
          rintro e w2 ⟨rfl, hb⟩
          have k3 := kept_on hWk.out hb
          have hB2 := below_step hWb.out hb
          go_wp2_with fail
          refine Calls.mono (lWhileN (kept_on HW.out hb) hM E (by omega)) ?_
          rw [← HE.out]
          rintro e w3 ⟨rfl, rfl⟩
          go_wp2_with fail
          refine Calls.mono (lText (kept_on HW.out hb) hS p E (by omega) (by omega)) ?_
          rw [← HTX.out]
          rintro e w4 ⟨rfl, hb4⟩
          have k4 := kept_on k3 hb4
          obtain ⟨g1, g2, g3, g4, z1, z2, z3, z4⟩ := tok_at k4
          obtain ⟨Y, hY, hYk, hYb⟩ := tok_put k4 (below_step hB2 hb4) (Nat.le_refl _) 1 t u p
          obtain ⟨y1, y2, y3, y4, -, -, -, -⟩ := tok_at hYk
          have HYb : Hid _ := hYb
          clear hYk hYb k4 k3 hB2 hb4 hb
          go_wp2_with (rw [← hY])
          exact bodyPost_ret (v := .tuple #[.agg (tokC 1 t u p), .int .i64 (E : Nat)]) (by simp [results, Tryd.results30, go_sem, tokC, y1, y2, y3, y4]) rfl ⟨rfl, HYb.out⟩

    · have g0 : ¬ (d : Int) < (q1 : Int) := by omega
      have HX : isHexN S p = false := by
        unfold isHexN
        rw [hX, ← HH.out, ← HD.out, decide_eq_false hlt3]
        rfl
      have DG : Hid (DigOk 10 (S.extract p q0).data.toList) := AD.out
      clear AD CP DX HQ1
      have HT2 : Hid ((K, t, n, E) = numW S p p 10 q0) := by
        show _ = _
        rw [← HT.out]
        unfold numT
        rw [HX]
        rw [← HQ.out]; rfl
      clear HT HQ
      unfold numW at HT2
      have b0 : (0 : Int) ≤ (p : Int) := by omega
      have b1 : (p : Int) ≤ ((q0 : Nat) : Int) := by omega
      have b2 : ((q0 : Nat) : Int) ≤ (S.size : Int) := by omega
      have hsz : (S.extract p q0).size ≠ 0 := by rw [ByteArray.size_extract]; omega
      have hsm : (S.extract p q0).size ≤ 281474976710656 := by rw [ByteArray.size_extract]; omega
      obtain ⟨en, hen⟩ : ∃ en, en = whileV S bInName (S.size - q0) q0 := ⟨_, rfl⟩
      have HE : Hid (en = whileV S bInName (S.size - q0) q0) := hen
      have e0 : q0 ≤ en := by rw [hen]; exact while_ge _ _ _ _
      rw [← hen] at HT2
      clear hen
      cases hO : numM 10 0 (S.extract p q0).data.toList with
      | none =>
        rw [hO] at HT2
        have CU : Hid _ := puRange (b := 10) _ hsz hsm DG.out hO W ev HVW.out hev
        obtain ⟨rfl, rfl, rfl, rfl⟩ : K = 5 ∧ t = ⟨#[]⟩ ∧ n = 0 ∧ E = en := by
          have := HT2.out
          simp only [Prod.mk.injEq] at this
          exact this
        clear HT2 hO hsz hsm
        go_wp2_with fail
        refine Calls.mono CU.out ?_
        rintro e w2 ⟨N, rfl, hb⟩
        have hn := neqErr N
        have k3 := kept_on hWk.out hb
        have hB2 := below_step hWb.out hb
        go_wp2_with fail
        refine Calls.mono (lWhileN (kept_on HW.out hb) hM q0 (by omega)) ?_
        rw [← HE.out]
        rintro e w3 ⟨rfl, rfl⟩
        go_wp2_with fail
        refine Calls.mono (lBad p _) ?_
        rintro e w4 ⟨rfl, hb4⟩
        unfold tokC
        have k4 := kept_on k3 hb4
        obtain ⟨g1, g2, g3, g4, z1, z2, z3, z4⟩ := tok_at k4
        obtain ⟨Y, hY, hYk, hYb⟩ := tok_put k4 (below_step hB2 hb4) (Nat.le_refl _) 5 ⟨#[]⟩ 0 p
        obtain ⟨y1, y2, y3, y4, -, -, -, -⟩ := tok_at hYk
        have HYb : Hid _ := hYb
        clear hYk hYb k4 k3 hB2 hb4 hb
        go_wp2_with (rw [← hY])
        exact bodyPost_ret (v := .tuple #[.agg (tokC 5 ⟨#[]⟩ 0 p), .int .i64 (E : Nat)]) (by simp [results, Tryd.results30, go_sem, tokC, y1, y2, y3, y4]) rfl ⟨rfl, HYb.out⟩
      | some u =>
        rw [hO] at HT2
        have CU : Hid _ := puOk (b := 10) _ hsz hsm DG.out hO W
        have hu := num_le _ _ u (by omega) hO
        have hu1 : (u : Int) ≤ 4294967295 := by omega
        have hu0 : (0 : Int) ≤ (u : Int) := by omega
        clear hO hsz hsm
        by_cases hlt2 : q0 < en
        · have g1 : ((q0 : Nat) : Int) < (en : Int) := by omega
          obtain ⟨rfl, rfl, rfl, rfl⟩ : K = 5 ∧ t = ⟨#[]⟩ ∧ n = 0 ∧ E = en := by
            have := HT2.out
            simp only [if_pos hlt2, Prod.mk.injEq] at this
            exact this
          clear HT2
          go_wp2_with fail
          refine Calls.mono CU.out ?_
          rintro e w2 ⟨rfl, hb⟩
          have k3 := kept_on hWk.out hb
          have hB2 := below_step hWb.out hb
          go_wp2_with fail
          refine Calls.mono (lWhileN (kept_on HW.out hb) hM q0 (by omega)) ?_
          rw [← HE.out]
          rintro e w3 ⟨rfl, rfl⟩
          go_wp2_with fail
          refine Calls.mono (lBad p _) ?_
          rintro e w4 ⟨rfl, hb4⟩
          unfold tokC
          have k4 := kept_on k3 hb4
          obtain ⟨g1, g2, g3, g4, z1, z2, z3, z4⟩ := tok_at k4
          obtain ⟨Y, hY, hYk, hYb⟩ := tok_put k4 (below_step hB2 hb4) (Nat.le_refl _) 5 ⟨#[]⟩ 0 p
          obtain ⟨y1, y2, y3, y4, -, -, -, -⟩ := tok_at hYk
          have HYb : Hid _ := hYb
          clear hYk hYb k4 k3 hB2 hb4 hb
          go_wp2_with (rw [← hY])
          exact bodyPost_ret (v := .tuple #[.agg (tokC 5 ⟨#[]⟩ 0 p), .int .i64 (E : Nat)]) (by simp [results, Tryd.results30, go_sem, tokC, y1, y2, y3, y4]) rfl ⟨rfl, HYb.out⟩
        · have g1 : ¬ ((q0 : Nat) : Int) < (en : Int) := by omega
          obtain ⟨rfl, HTX, rfl, rfl⟩ : K = 1 ∧ Hid (t = S.extract p q0) ∧ n = u ∧ E = q0 := by
            have := HT2.out
            simp only [if_neg hlt2, Prod.mk.injEq] at this
            exact this
          clear HT2
          go_wp2_with fail
          refine Calls.mono CU.out ?_
          rintro e w2 ⟨rfl, hb⟩
          have k3 := kept_on hWk.out hb
          have hB2 := below_step hWb.out hb
          go_wp2_with fail
          refine Calls.mono (lWhileN (kept_on HW.out hb) hM E (by omega)) ?_
          rw [← HE.out]
          rintro e w3 ⟨rfl, rfl⟩
          go_wp2_with fail
          refine Calls.mono (lText (kept_on HW.out hb) hS p E (by omega) (by omega)) ?_
          rw [← HTX.out]
          rintro e w4 ⟨rfl, hb4⟩
          have k4 := kept_on k3 hb4
          obtain ⟨g1, g2, g3, g4, z1, z2, z3, z4⟩ := tok_at k4
          obtain ⟨Y, hY, hYk, hYb⟩ := tok_put k4 (below_step hB2 hb4) (Nat.le_refl _) 1 t u p
          obtain ⟨y1, y2, y3, y4, -, -, -, -⟩ := tok_at hYk
          have HYb : Hid _ := hYb
          clear hYk hYb k4 k3 hB2 hb4 hb
          go_wp2_with (rw [← hY])
          exact bodyPost_ret (v := .tuple #[.agg (tokC 1 t u p), .int .i64 (E : Nat)]) (by simp [results, Tryd.results30, go_sem, tokC, y1, y2, y3, y4]) rfl ⟨rfl, HYb.out⟩

end Go.Proofs.YtjgpojjbjgdfkaaDoor
