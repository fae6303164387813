/-
  Just what lies wholly in one region is allowed; two side by side do not make one; what it is asked for must be so.
-/
import Derived.Test.YtioppnlojlecaaaGdk
namespace Go.Proofs.Ytioppnlojlecaaa
open Go.RowKit

theorem allow_off (l : List Rg) (p s h : Int) (hh : s < 1 ∨ h < 0 ∨ 2 < h) : allowV l p s h = false := by unfold allowV; rw [if_pos hh]
theorem allow_on (l : List Rg) (p s h : Int) (hs : 1 ≤ s) (h0 : 0 ≤ h) (h2 : h ≤ 2) : allowV l p s h = l.any fun r => allow1 r p s h := by unfold allowV; rw [if_neg (by omega)]
theorem allow_one (r : Rg) (p s h : Int) (hs : 1 ≤ s) (h0 : 0 ≤ h) (h2 : h ≤ 2) : allowV [r] p s h = allow1 r p s h := by rw [allow_on _ _ _ _ hs h0 h2]; simp
theorem allow_two (r t : Rg) (p s h : Int) (hs : 1 ≤ s) (h0 : 0 ≤ h) (h2 : h ≤ 2) : allowV [r, t] p s h = (allow1 r p s h || allow1 t p s h) := by rw [allow_on _ _ _ _ hs h0 h2]; simp

set_option maxRecDepth 100000 in
set_option maxHeartbeats 4000000 in
theorem guardEdges_in_true (K : GuardK) (lo n q z : Int) (y : Bool) (l0 : 0 ≤ lo) (l1 : lo ≤ 65535) (n0 : 0 ≤ n) (n1 : n ≤ 65535) (q0 : 0 ≤ q) (q1 : q ≤ 65535) (z0 : 0 ≤ z) (z1 : z ≤ 255)
    (hin : lo * 4 + q % (n * 4 + 4) + (1 + z % 8) ≤ lo * 4 + n * 4) (w : World) :
    Calls Try.prog 5 #[.int .u16 lo, .int .u16 n, .int .u16 q, .int .u8 z, .bool true, .bool y] w fun e w' => e = .returned (.bool true) ∧ Below w.heap.size w w' := by
  have CW : Hid _ := gawake K
  have HK : Hid _ := K
  clear K
  have T1 : q.tmod (n * 4 + 4) = q % (n * 4 + 4) := Int.tmod_eq_emod_of_nonneg q0
  have T2 : z.tmod 8 = z % 8 := Int.tmod_eq_emod_of_nonneg z0
  have m0 : 0 ≤ q % (n * 4 + 4) := Int.emod_nonneg _ (by omega)
  have m1 : q % (n * 4 + 4) < n * 4 + 4 := Int.emod_lt_of_pos _ (by omega)
  have d0 : ¬ n * 4 + 4 = 0 := by omega
  generalize hM : q % (n * 4 + 4) = M at *
  have k1 : lo * 4 ≤ lo * 4 + M := by omega
  have k2 : lo * 4 + M + (1 + z % 8) ≤ lo * 4 + n * 4 := hin
  have k3 : ¬ lo * 4 + n * 4 ≤ lo * 4 + M := by omega
  have UP : Hid (U32 (lo * 4 + M)) := ⟨by omega, by omega⟩
  have US : Hid (U32 (1 + z % 8)) := ⟨by omega, by omega⟩
  have U1 : Hid (∀ r ∈ [(⟨lo * 4, lo * 4 + n * 4, true, y⟩ : Rg)], RgU r) := rgU_one ⟨⟨by dsimp only; omega, by dsimp only; omega⟩, ⟨by dsimp only; omega, by dsimp only; omega⟩⟩
  have U2 : Hid (∀ r ∈ [(⟨lo * 4, lo * 4 + n * 4, true, y⟩ : Rg), ⟨lo * 4 + n * 4, lo * 4 + n * 4 + 4, true, true⟩], RgU r) := rgU_two ⟨⟨by dsimp only; omega, by dsimp only; omega⟩, ⟨by dsimp only; omega, by dsimp only; omega⟩⟩ ⟨⟨by dsimp only; omega, by dsimp only; omega⟩, ⟨by dsimp only; omega, by dsimp only; omega⟩⟩
  have a0 : allow1 ⟨lo * 4, lo * 4 + n * 4, true, y⟩ (lo * 4 + M) (1 + z % 8) 0 = true := by
    unfold allow1
    rw [decide_eq_true k1, decide_eq_true k2]
    simp
  have a1 : allow1 ⟨lo * 4, lo * 4 + n * 4, true, y⟩ (lo * 4 + M) (1 + z % 8) 1 = y := by
    unfold allow1
    rw [decide_eq_true k1, decide_eq_true k2]
    simp
  have a2 : allow1 ⟨lo * 4, lo * 4 + n * 4, true, y⟩ (lo * 4 + M) (1 + z % 8) 2 = true := by
    unfold allow1
    rw [decide_eq_true k1, decide_eq_true k2]
    simp
  have c0 : allow1 ⟨lo * 4 + n * 4, lo * 4 + n * 4 + 4, true, true⟩ (lo * 4 + M) (1 + z % 8) 0 = false := by
    unfold allow1
    rw [decide_eq_false k3]
    simp
  have c2 : allow1 ⟨lo * 4 + n * 4, lo * 4 + n * 4 + 4, true, true⟩ (lo * 4 + M) (1 + z % 8) 2 = false := by
    unfold allow1
    rw [decide_eq_false k3]
    simp
  have v0 : Hid (allowV [(⟨lo * 4, lo * 4 + n * 4, true, y⟩ : Rg)] (lo * 4 + M) (1 + z % 8) 0 = true) := by
    show _ = _
    rw [allow_one _ _ _ _ (by omega) (by decide) (by decide), a0]
  have v1 : Hid (allowV [(⟨lo * 4, lo * 4 + n * 4, true, y⟩ : Rg)] (lo * 4 + M) (1 + z % 8) 1 = y) := by
    show _ = _
    rw [allow_one _ _ _ _ (by omega) (by decide) (by decide), a1]
  have v2 : Hid (allowV [(⟨lo * 4, lo * 4 + n * 4, true, y⟩ : Rg)] (lo * 4 + M) (1 + z % 8) 2 = true) := by
    show _ = _
    rw [allow_one _ _ _ _ (by omega) (by decide) (by decide), a2]
  have v3 : Hid (allowV [(⟨lo * 4, lo * 4 + n * 4, true, y⟩ : Rg), ⟨lo * 4 + n * 4, lo * 4 + n * 4 + 4, true, true⟩] (lo * 4 + M) (1 + z % 8) 0 = true) := by
    show _ = _
    rw [allow_two _ _ _ _ _ (by omega) (by decide) (by decide), a0, c0]
    rfl
  have v4 : Hid (allowV [(⟨lo * 4, lo * 4 + n * 4, true, y⟩ : Rg), ⟨lo * 4 + n * 4, lo * 4 + n * 4 + 4, true, true⟩] (lo * 4 + M) (1 + z % 8) 2 = true) := by
    show _ = _
    rw [allow_two _ _ _ _ _ (by omega) (by decide) (by decide), a2, c2]
    rfl
  clear a0 a1 a2 c0 c2
  have R9 : Hid (∀ V : World, Regs (V.alloc (.cells #[.int .u32 0, .int .u32 4294967292, .bool true, .bool true] 40)) (some ⟨V.heap.size, 0, none⟩) V.heap.size 0 [⟨0, 4294967292, true, true⟩]) := fun V => regs_new V [⟨0, 4294967292, true, true⟩] _
  have v9 : Hid (allowV [⟨0, 4294967292, true, true⟩] 4294967292 (1 + z % 8) 0 = false) := by
    show _ = _
    rw [allow_one _ _ _ _ (by omega) (by decide) (by decide)]
    have : ¬ 4294967292 + (1 + z % 8) ≤ 4294967292 := by omega
    simp [allow1, this]
  have U9 : Hid (∀ r ∈ [(⟨0, 4294967292, true, true⟩ : Rg)], RgU r) := rgU_one ⟨⟨by decide, by decide⟩, ⟨by decide, by decide⟩⟩
  go_enter Try.func5, Try.ntmps5
  go_wp2_with fail
  obtain ⟨A1, A2, b0⟩ := alloc4 w (.cells #[.int .u32 (lo * 4), .int .u32 (lo * 4 + n * 4), .bool true, .bool y] 40) (.cells #[.int .u32 (lo * 4 + n * 4), .int .u32 (lo * 4 + n * 4 + 4), .bool true, .bool true] 40) (.cells #[.int .u32 (lo * 4), .int .u32 (lo * 4 + n * 4), .bool true, .bool y] 40) (.cells #[.int .u32 (lo * 4), .int .u32 (lo * 4 + n * 4), .bool true, .bool y, .int .u32 (lo * 4 + n * 4), .int .u32 (lo * 4 + n * 4 + 4), .bool true, .bool true] 40)
  have R1 : Hid _ := regs_block (l := [⟨lo * 4, lo * 4 + n * 4, true, y⟩]) A1
  have R2 : Hid _ := regs_block (l := [⟨lo * 4, lo * 4 + n * 4, true, y⟩, ⟨lo * 4 + n * 4, lo * 4 + n * 4 + 4, true, true⟩]) A2
  clear A1 A2
  have B : Hid _ := b0
  clear b0
  generalize (((w.alloc (.cells #[.int .u32 (lo * 4), .int .u32 (lo * 4 + n * 4), .bool true, .bool y] 40)).alloc (.cells #[.int .u32 (lo * 4 + n * 4), .int .u32 (lo * 4 + n * 4 + 4), .bool true, .bool true] 40)).alloc (.cells #[.int .u32 (lo * 4), .int .u32 (lo * 4 + n * 4), .bool true, .bool y] 40)).alloc (.cells #[.int .u32 (lo * 4), .int .u32 (lo * 4 + n * 4), .bool true, .bool y, .int .u32 (lo * 4 + n * 4), .int .u32 (lo * 4 + n * 4 + 4), .bool true, .bool true] 40) = w0 at *
  refine (HK.out.allow R1.out U1.out 1 1 rfl (by decide) (lo * 4 + M) (1 + z % 8) 0 UP.out US.out).mono ?_
  rintro e w1 ⟨rfl, hb⟩
  rw [v0.out]
  have R1 : Hid _ := R1.out.below hb
  have R2 : Hid _ := R2.out.below hb
  have B : Hid _ := below_step B.out hb
  clear hb
  go_wp2_with fail
  refine (HK.out.allow R1.out U1.out 1 1 rfl (by decide) (lo * 4 + M) (1 + z % 8) 1 UP.out US.out).mono ?_
  rintro e w2 ⟨rfl, hb⟩
  rw [v1.out]
  have R1 : Hid _ := R1.out.below hb
  have R2 : Hid _ := R2.out.below hb
  have B : Hid _ := below_step B.out hb
  clear hb
  go_wp2_with fail
  refine (HK.out.allow R1.out U1.out 1 1 rfl (by decide) (lo * 4 + M) (1 + z % 8) 2 UP.out US.out).mono ?_
  rintro e w3 ⟨rfl, hb⟩
  rw [v2.out]
  have R1 : Hid _ := R1.out.below hb
  have R2 : Hid _ := R2.out.below hb
  have B : Hid _ := below_step B.out hb
  clear hb
  go_wp2_with fail
  refine (HK.out.allow R2.out U2.out 2 2 rfl (by decide) (lo * 4 + M) (1 + z % 8) 0 UP.out US.out).mono ?_
  rintro e w4 ⟨rfl, hb⟩
  rw [v3.out]
  have R1 : Hid _ := R1.out.below hb
  have R2 : Hid _ := R2.out.below hb
  have B : Hid _ := below_step B.out hb
  clear hb
  go_wp2_with fail
  refine (HK.out.allow R2.out U2.out 2 2 rfl (by decide) (lo * 4 + M) (1 + z % 8) 2 UP.out US.out).mono ?_
  rintro e w5 ⟨rfl, hb⟩
  rw [v4.out]
  have R1 : Hid _ := R1.out.below hb
  have R2 : Hid _ := R2.out.below hb
  have B : Hid _ := below_step B.out hb
  clear hb
  go_wp2_with fail
  refine (HK.out.allow R1.out U1.out 1 1 rfl (by decide) (lo * 4 + M) 0 0 UP.out ⟨by decide, by decide⟩).mono ?_
  rintro e w6 ⟨rfl, hb⟩
  rw [allow_off _ _ _ _ (by omega)]
  have R1 : Hid _ := R1.out.below hb
  have R2 : Hid _ := R2.out.below hb
  have B : Hid _ := below_step B.out hb
  clear hb
  go_wp2_with fail
  refine (HK.out.allow R2.out U2.out 2 2 rfl (by decide) (lo * 4 + M) (1 + z % 8) 3 UP.out US.out).mono ?_
  rintro e w7 ⟨rfl, hb⟩
  rw [allow_off _ _ _ _ (by omega)]
  have R1 : Hid _ := R1.out.below hb
  have R2 : Hid _ := R2.out.below hb
  have B : Hid _ := below_step B.out hb
  clear hb
  go_wp2_with fail
  refine (HK.out.allow R2.out U2.out 2 2 rfl (by decide) (lo * 4 + M) (1 + z % 8) (-1) UP.out US.out).mono ?_
  rintro e w8 ⟨rfl, hb⟩
  rw [allow_off _ _ _ _ (by omega)]
  have R1 : Hid _ := R1.out.below hb
  have R2 : Hid _ := R2.out.below hb
  have B : Hid _ := below_step B.out hb
  clear hb
  go_wp2_with fail
  refine (HK.out.allow (R9.out w8) U9.out 1 1 rfl (by decide) 4294967292 (1 + z % 8) 0 ⟨by decide, by decide⟩ US.out).mono ?_
  rintro e wa ⟨rfl, hb⟩
  rw [v9.out]
  have B : Hid _ := below_step B.out (below_first hb)
  clear hb
  go_wp2_with fail
  refine (CW.out wa).mono ?_
  rintro e wb ⟨rfl, hb⟩
  have B : Hid _ := below_step B.out hb
  clear hb
  go_wp2
  go_ret
  exact ⟨rfl, B.out⟩

set_option maxRecDepth 100000 in
set_option maxHeartbeats 4000000 in
theorem guardEdges_in_false (K : GuardK) (lo n q z : Int) (y : Bool) (l0 : 0 ≤ lo) (l1 : lo ≤ 65535) (n0 : 0 ≤ n) (n1 : n ≤ 65535) (q0 : 0 ≤ q) (q1 : q ≤ 65535) (z0 : 0 ≤ z) (z1 : z ≤ 255)
    (hin : lo * 4 + q % (n * 4 + 4) + (1 + z % 8) ≤ lo * 4 + n * 4) (w : World) :
    Calls Try.prog 5 #[.int .u16 lo, .int .u16 n, .int .u16 q, .int .u8 z, .bool false, .bool y] w fun e w' => e = .returned (.bool true) ∧ Below w.heap.size w w' := by
  have CW : Hid _ := gawake K
  have HK : Hid _ := K
  clear K
  have T1 : q.tmod (n * 4 + 4) = q % (n * 4 + 4) := Int.tmod_eq_emod_of_nonneg q0
  have T2 : z.tmod 8 = z % 8 := Int.tmod_eq_emod_of_nonneg z0
  have m0 : 0 ≤ q % (n * 4 + 4) := Int.emod_nonneg _ (by omega)
  have m1 : q % (n * 4 + 4) < n * 4 + 4 := Int.emod_lt_of_pos _ (by omega)
  have d0 : ¬ n * 4 + 4 = 0 := by omega
  generalize hM : q % (n * 4 + 4) = M at *
  have k1 : lo * 4 ≤ lo * 4 + M := by omega
  have k2 : lo * 4 + M + (1 + z % 8) ≤ lo * 4 + n * 4 := hin
  have k3 : ¬ lo * 4 + n * 4 ≤ lo * 4 + M := by omega
  have UP : Hid (U32 (lo * 4 + M)) := ⟨by omega, by omega⟩
  have US : Hid (U32 (1 + z % 8)) := ⟨by omega, by omega⟩
  have U1 : Hid (∀ r ∈ [(⟨lo * 4, lo * 4 + n * 4, false, y⟩ : Rg)], RgU r) := rgU_one ⟨⟨by dsimp only; omega, by dsimp only; omega⟩, ⟨by dsimp only; omega, by dsimp only; omega⟩⟩
  have U2 : Hid (∀ r ∈ [(⟨lo * 4, lo * 4 + n * 4, false, y⟩ : Rg), ⟨lo * 4 + n * 4, lo * 4 + n * 4 + 4, true, true⟩], RgU r) := rgU_two ⟨⟨by dsimp only; omega, by dsimp only; omega⟩, ⟨by dsimp only; omega, by dsimp only; omega⟩⟩ ⟨⟨by dsimp only; omega, by dsimp only; omega⟩, ⟨by dsimp only; omega, by dsimp only; omega⟩⟩
  have a0 : allow1 ⟨lo * 4, lo * 4 + n * 4, false, y⟩ (lo * 4 + M) (1 + z % 8) 0 = true := by
    unfold allow1
    rw [decide_eq_true k1, decide_eq_true k2]
    simp
  have a1 : allow1 ⟨lo * 4, lo * 4 + n * 4, false, y⟩ (lo * 4 + M) (1 + z % 8) 1 = y := by
    unfold allow1
    rw [decide_eq_true k1, decide_eq_true k2]
    simp
  have a2 : allow1 ⟨lo * 4, lo * 4 + n * 4, false, y⟩ (lo * 4 + M) (1 + z % 8) 2 = false := by
    unfold allow1
    rw [decide_eq_true k1, decide_eq_true k2]
    simp
  have c0 : allow1 ⟨lo * 4 + n * 4, lo * 4 + n * 4 + 4, true, true⟩ (lo * 4 + M) (1 + z % 8) 0 = false := by
    unfold allow1
    rw [decide_eq_false k3]
    simp
  have c2 : allow1 ⟨lo * 4 + n * 4, lo * 4 + n * 4 + 4, true, true⟩ (lo * 4 + M) (1 + z % 8) 2 = false := by
    unfold allow1
    rw [decide_eq_false k3]
    simp
  have v0 : Hid (allowV [(⟨lo * 4, lo * 4 + n * 4, false, y⟩ : Rg)] (lo * 4 + M) (1 + z % 8) 0 = true) := by
    show _ = _
    rw [allow_one _ _ _ _ (by omega) (by decide) (by decide), a0]
  have v1 : Hid (allowV [(⟨lo * 4, lo * 4 + n * 4, false, y⟩ : Rg)] (lo * 4 + M) (1 + z % 8) 1 = y) := by
    show _ = _
    rw [allow_one _ _ _ _ (by omega) (by decide) (by decide), a1]
  have v2 : Hid (allowV [(⟨lo * 4, lo * 4 + n * 4, false, y⟩ : Rg)] (lo * 4 + M) (1 + z % 8) 2 = false) := by
    show _ = _
    rw [allow_one _ _ _ _ (by omega) (by decide) (by decide), a2]
  have v3 : Hid (allowV [(⟨lo * 4, lo * 4 + n * 4, false, y⟩ : Rg), ⟨lo * 4 + n * 4, lo * 4 + n * 4 + 4, true, true⟩] (lo * 4 + M) (1 + z % 8) 0 = true) := by
    show _ = _
    rw [allow_two _ _ _ _ _ (by omega) (by decide) (by decide), a0, c0]
    rfl
  have v4 : Hid (allowV [(⟨lo * 4, lo * 4 + n * 4, false, y⟩ : Rg), ⟨lo * 4 + n * 4, lo * 4 + n * 4 + 4, true, true⟩] (lo * 4 + M) (1 + z % 8) 2 = false) := by
    show _ = _
    rw [allow_two _ _ _ _ _ (by omega) (by decide) (by decide), a2, c2]
    rfl
  clear a0 a1 a2 c0 c2
  have R9 : Hid (∀ V : World, Regs (V.alloc (.cells #[.int .u32 0, .int .u32 4294967292, .bool true, .bool true] 40)) (some ⟨V.heap.size, 0, none⟩) V.heap.size 0 [⟨0, 4294967292, true, true⟩]) := fun V => regs_new V [⟨0, 4294967292, true, true⟩] _
  have v9 : Hid (allowV [⟨0, 4294967292, true, true⟩] 4294967292 (1 + z % 8) 0 = false) := by
    show _ = _
    rw [allow_one _ _ _ _ (by omega) (by decide) (by decide)]
    have : ¬ 4294967292 + (1 + z % 8) ≤ 4294967292 := by omega
    simp [allow1, this]
  have U9 : Hid (∀ r ∈ [(⟨0, 4294967292, true, true⟩ : Rg)], RgU r) := rgU_one ⟨⟨by decide, by decide⟩, ⟨by decide, by decide⟩⟩
  go_enter Try.func5, Try.ntmps5
  go_wp2_with fail
  obtain ⟨A1, A2, b0⟩ := alloc4 w (.cells #[.int .u32 (lo * 4), .int .u32 (lo * 4 + n * 4), .bool false, .bool y] 40) (.cells #[.int .u32 (lo * 4 + n * 4), .int .u32 (lo * 4 + n * 4 + 4), .bool true, .bool true] 40) (.cells #[.int .u32 (lo * 4), .int .u32 (lo * 4 + n * 4), .bool false, .bool y] 40) (.cells #[.int .u32 (lo * 4), .int .u32 (lo * 4 + n * 4), .bool false, .bool y, .int .u32 (lo * 4 + n * 4), .int .u32 (lo * 4 + n * 4 + 4), .bool true, .bool true] 40)
  have R1 : Hid _ := regs_block (l := [⟨lo * 4, lo * 4 + n * 4, false, y⟩]) A1
  have R2 : Hid _ := regs_block (l := [⟨lo * 4, lo * 4 + n * 4, false, y⟩, ⟨lo * 4 + n * 4, lo * 4 + n * 4 + 4, true, true⟩]) A2
  clear A1 A2
  have B : Hid _ := b0
  clear b0
  generalize (((w.alloc (.cells #[.int .u32 (lo * 4), .int .u32 (lo * 4 + n * 4), .bool false, .bool y] 40)).alloc (.cells #[.int .u32 (lo * 4 + n * 4), .int .u32 (lo * 4 + n * 4 + 4), .bool true, .bool true] 40)).alloc (.cells #[.int .u32 (lo * 4), .int .u32 (lo * 4 + n * 4), .bool false, .bool y] 40)).alloc (.cells #[.int .u32 (lo * 4), .int .u32 (lo * 4 + n * 4), .bool false, .bool y, .int .u32 (lo * 4 + n * 4), .int .u32 (lo * 4 + n * 4 + 4), .bool true, .bool true] 40) = w0 at *
  refine (HK.out.allow R1.out U1.out 1 1 rfl (by decide) (lo * 4 + M) (1 + z % 8) 0 UP.out US.out).mono ?_
  rintro e w1 ⟨rfl, hb⟩
  rw [v0.out]
  have R1 : Hid _ := R1.out.below hb
  have R2 : Hid _ := R2.out.below hb
  have B : Hid _ := below_step B.out hb
  clear hb
  go_wp2_with fail
  refine (HK.out.allow R1.out U1.out 1 1 rfl (by decide) (lo * 4 + M) (1 + z % 8) 1 UP.out US.out).mono ?_
  rintro e w2 ⟨rfl, hb⟩
  rw [v1.out]
  have R1 : Hid _ := R1.out.below hb
  have R2 : Hid _ := R2.out.below hb
  have B : Hid _ := below_step B.out hb
  clear hb
  go_wp2_with fail
  refine (HK.out.allow R1.out U1.out 1 1 rfl (by decide) (lo * 4 + M) (1 + z % 8) 2 UP.out US.out).mono ?_
  rintro e w3 ⟨rfl, hb⟩
  rw [v2.out]
  have R1 : Hid _ := R1.out.below hb
  have R2 : Hid _ := R2.out.below hb
  have B : Hid _ := below_step B.out hb
  clear hb
  go_wp2_with fail
  refine (HK.out.allow R2.out U2.out 2 2 rfl (by decide) (lo * 4 + M) (1 + z % 8) 0 UP.out US.out).mono ?_
  rintro e w4 ⟨rfl, hb⟩
  rw [v3.out]
  have R1 : Hid _ := R1.out.below hb
  have R2 : Hid _ := R2.out.below hb
  have B : Hid _ := below_step B.out hb
  clear hb
  go_wp2_with fail
  refine (HK.out.allow R2.out U2.out 2 2 rfl (by decide) (lo * 4 + M) (1 + z % 8) 2 UP.out US.out).mono ?_
  rintro e w5 ⟨rfl, hb⟩
  rw [v4.out]
  have R1 : Hid _ := R1.out.below hb
  have R2 : Hid _ := R2.out.below hb
  have B : Hid _ := below_step B.out hb
  clear hb
  go_wp2_with fail
  refine (HK.out.allow R1.out U1.out 1 1 rfl (by decide) (lo * 4 + M) 0 0 UP.out ⟨by decide, by decide⟩).mono ?_
  rintro e w6 ⟨rfl, hb⟩
  rw [allow_off _ _ _ _ (by omega)]
  have R1 : Hid _ := R1.out.below hb
  have R2 : Hid _ := R2.out.below hb
  have B : Hid _ := below_step B.out hb
  clear hb
  go_wp2_with fail
  refine (HK.out.allow R2.out U2.out 2 2 rfl (by decide) (lo * 4 + M) (1 + z % 8) 3 UP.out US.out).mono ?_
  rintro e w7 ⟨rfl, hb⟩
  rw [allow_off _ _ _ _ (by omega)]
  have R1 : Hid _ := R1.out.below hb
  have R2 : Hid _ := R2.out.below hb
  have B : Hid _ := below_step B.out hb
  clear hb
  go_wp2_with fail
  refine (HK.out.allow R2.out U2.out 2 2 rfl (by decide) (lo * 4 + M) (1 + z % 8) (-1) UP.out US.out).mono ?_
  rintro e w8 ⟨rfl, hb⟩
  rw [allow_off _ _ _ _ (by omega)]
  have R1 : Hid _ := R1.out.below hb
  have R2 : Hid _ := R2.out.below hb
  have B : Hid _ := below_step B.out hb
  clear hb
  go_wp2_with fail
  refine (HK.out.allow (R9.out w8) U9.out 1 1 rfl (by decide) 4294967292 (1 + z % 8) 0 ⟨by decide, by decide⟩ US.out).mono ?_
  rintro e wa ⟨rfl, hb⟩
  rw [v9.out]
  have B : Hid _ := below_step B.out (below_first hb)
  clear hb
  go_wp2_with fail
  refine (CW.out wa).mono ?_
  rintro e wb ⟨rfl, hb⟩
  have B : Hid _ := below_step B.out hb
  clear hb
  go_wp2
  go_ret
  exact ⟨rfl, B.out⟩
end Go.Proofs.Ytioppnlojlecaaa
