/-
  Bytes and halves with a sign, and whole words.
-/
import Derived.Test.YtbfliilabkjkgaaLawv
namespace Go.Proofs.Ytbfliilabkjkgaa
open Go.RowKit

theorem bitsV_byte (x lo : Int) : 0 ≤ bitsV x lo 8 ∧ bitsV x lo 8 < 256 := by
  unfold bitsV
  split
  · decide
  · have h := Int.emod_nonneg (x * 2 ^ (32 - lo - 8).toNat) (b := 4294967296) (by decide)
    have h' := Int.emod_lt_of_pos (x * 2 ^ (32 - lo - 8).toNat) (b := 4294967296) (by decide)
    rw [show (2 : Int) ^ ((32 : Int) - 8).toNat = 16777216 by decide]
    omega
theorem bitsV_half (x lo : Int) : 0 ≤ bitsV x lo 16 ∧ bitsV x lo 16 < 65536 := by
  unfold bitsV
  split
  · decide
  · have h := Int.emod_nonneg (x * 2 ^ (32 - lo - 16).toNat) (b := 4294967296) (by decide)
    have h' := Int.emod_lt_of_pos (x * 2 ^ (32 - lo - 16).toNat) (b := 4294967296) (by decide)
    rw [show (2 : Int) ^ ((32 : Int) - 16).toNat = 65536 by decide]
    omega
theorem bitsV_word {x : Int} (hx : U32 x) : bitsV x 0 32 = x := by
  have h := bitsV_int hx 0 32 (by omega) (by omega) (by omega)
  obtain ⟨h0, h1⟩ := hx
  rw [show bitsV x 0 32 = bitsV x ((0 : Nat) : Int) ((32 : Nat) : Int) from rfl, h]
  omega
theorem sextV_byte {y : Int} (h0 : 0 ≤ y) (h1 : y < 256) : sextV y 8 = if y < 128 then y else y + 4294967040 := by
  unfold sextV wrap32
  rw [if_neg (by decide), show (2 : Int) ^ ((32 : Int) - 8).toNat = 16777216 by decide]
  split <;> omega
theorem sextV_half {y : Int} (h0 : 0 ≤ y) (h1 : y < 65536) : sextV y 16 = if y < 32768 then y else y + 4294901760 := by
  unfold sextV wrap32
  rw [if_neg (by decide), show (2 : Int) ^ ((32 : Int) - 16).toNat = 65536 by decide]
  split <;> omega
theorem sextV_word {x : Int} (hx : U32 x) : sextV x 32 = x := by
  obtain ⟨h0, h1⟩ := hx
  unfold sextV wrap32
  rw [if_neg (by decide), show (2 : Int) ^ ((32 : Int) - 32).toNat = 1 by decide]
  omega
theorem two_at (x p : Int) (h0 : 0 ≤ p) (h1 : p < 8) : wordAt [x, x] (p / 4).toNat = x := by
  have h : (p / 4).toNat = 0 ∨ (p / 4).toNat = 1 := by omega
  rcases h with h | h <;> rw [h] <;> rfl
theorem ask_two (p k : Int) (hk : k = 1 ∨ k = 2 ∨ k = 4) (hp : p % k = 0) (h1 : p < 8) : askV 2 p k = 0 := by
  unfold askV
  rw [if_neg (by rw [(sizeV_iff k).2 hk]; decide), if_neg (by omega), if_neg (by omega)]
theorem load_two (x p k : Int) (s : Bool) (hk : k = 1 ∨ k = 2 ∨ k = 4) (hp : p % k = 0) (h0 : 0 ≤ p) (h1 : p < 8) : loadN [x, x].length [x, x] p k s = if s then sextV (bitsV x (p % 4 * 8) (8 * k)) (8 * k) else bitsV x (p % 4 * 8) (8 * k) := by
  have e : askV [x, x].length p k = 0 := ask_two p k hk hp h1
  unfold loadN
  rw [if_pos e]
  unfold loadV
  rw [two_at x p h0 h1]

set_option maxRecDepth 100000 in
set_option maxHeartbeats 4000000 in
theorem memSigns_way {Is : World → Addr → List Int → (Nat → Prop) → Prop} (K : MemK Is) (x a y h c i : Int) (hx : U32 x) (a0 : 0 ≤ a) (a1 : a ≤ 255) (y0 : 0 ≤ y) (y1 : y < 256) (h0 : 0 ≤ h) (h1 : h < 65536)
    (hy : bitsV x (a % 8 % 4 * 8) 8 = y) (hh : bitsV x (a % 8 / 2 * 2 % 4 * 8) 16 = h) (hc : sextV y 8 = c) (hi : sextV h 16 = i) (w : World) :
    Calls Try.prog 7 #[.int .u32 x, .int .u8 a] w fun e w' => e = .returned (.bool true) ∧ Below w.heap.size w w' := by
  have CE : Hid _ := mErr
  have CW : Hid _ := mawake K
  have HK : Hid _ := K
  clear K
  have q0 : 0 ≤ a % 8 := by omega
  have q1 : a % 8 < 8 := by omega
  have L1 : Hid (loadN [x, x].length [x, x] (a % 8) 1 false = y) := by
    show _ = _
    rw [load_two x _ 1 _ (by omega) (by omega) q0 q1]; exact hy
  have L2 : Hid (loadN [x, x].length [x, x] (a % 8) 1 true = c) := by
    show _ = _
    rw [load_two x _ 1 _ (by omega) (by omega) q0 q1]; rw [← hc, ← hy]; rfl
  have L3 : Hid (loadN [x, x].length [x, x] (a % 8 / 2 * 2) 2 false = h) := by
    show _ = _
    rw [load_two x _ 2 _ (by omega) (by omega) (by omega) (by omega)]; exact hh
  have L4 : Hid (loadN [x, x].length [x, x] (a % 8 / 2 * 2) 2 true = i) := by
    show _ = _
    rw [load_two x _ 2 _ (by omega) (by omega) (by omega) (by omega)]; rw [← hi, ← hh]; rfl
  have L5 : Hid (loadN [x, x].length [x, x] (a % 8 / 4 * 4) 4 false = x) := by
    show _ = _
    rw [load_two x _ 4 _ (by omega) (by omega) (by omega) (by omega), show a % 8 / 4 * 4 % 4 * 8 = 0 by omega]; exact bitsV_word hx
  have L6 : Hid (loadN [x, x].length [x, x] (a % 8 / 4 * 4) 4 true = x) := by
    show _ = _
    rw [load_two x _ 4 _ (by omega) (by omega) (by omega) (by omega), show a % 8 / 4 * 4 % 4 * 8 = 0 by omega]
    show sextV (bitsV x 0 32) 32 = x
    rw [bitsV_word hx]; exact sextV_word hx
  have A1 : Hid (askV [x, x].length (a % 8) 1 = 0) := ask_two _ 1 (by omega) (by omega) q1
  have A2 : Hid (askV [x, x].length (a % 8 / 2 * 2) 2 = 0) := ask_two _ 2 (by omega) (by omega) (by omega)
  have A4 : Hid (askV [x, x].length (a % 8 / 4 * 4) 4 = 0) := ask_two _ 4 (by omega) (by omega) (by omega)
  have HC : Hid (c = if y < 128 then y else y + 4294967040) := by
    show _ = _
    rw [← hc]; exact sextV_byte y0 y1
  have HI : Hid (i = if h < 32768 then h else h + 4294901760) := by
    show _ = _
    rw [← hi]; exact sextV_half h0 h1
  have HX : Hid _ := hx
  obtain ⟨x0, x1⟩ := hx
  clear hy hh hc hi
  have T1 : a.tmod 8 = a % 8 := Int.tmod_eq_emod_of_nonneg a0
  have T2 : (a % 8).tdiv 2 = a % 8 / 2 := Int.tdiv_eq_ediv_of_nonneg q0
  have T4 : (a % 8).tdiv 4 = a % 8 / 4 := Int.tdiv_eq_ediv_of_nonneg q0
  go_enter Try.func7, Try.ntmps7
  go_wp2_with fail
  refine (HK.out.new w.heap.size 0 2 2 [x, x] _ rfl (by decide) (by decide) (by decide) (by intro z hz; simp at hz; rw [hz]; exact HX.out) (row_new w [x, x] _)).mono ?_
  rintro e w1 ⟨m, O, rfl, i1, -, hb1⟩
  have b1 := below_first hb1
  clear hb1
  go_wp2_with (first | (go_at_call 10; refine (CE.out _ _).mono ?_; rintro e w' ⟨rfl, rfl⟩))
  refine (HK.out.loads i1 _ 1 false _ _ ⟨by omega, by omega⟩ L1.out A1.out).mono ?_
  rintro e w2 ⟨rfl, i2, hb2⟩
  have b2 := below_step b1 hb2
  clear hb2 i1 b1
  go_wp2_with fail
  refine (HK.out.loads i2 _ 1 true _ _ ⟨by omega, by omega⟩ L2.out A1.out).mono ?_
  rintro e w3 ⟨rfl, i3, hb3⟩
  have b3 := below_step b2 hb3
  clear hb3 i2 b2
  go_wp2_with fail
  refine (HK.out.loads i3 _ 2 false _ _ ⟨by omega, by omega⟩ L3.out A2.out).mono ?_
  rintro e w4 ⟨rfl, i4, hb4⟩
  have b4 := below_step b3 hb4
  clear hb4 i3 b3
  go_wp2_with fail
  refine (HK.out.loads i4 _ 2 true _ _ ⟨by omega, by omega⟩ L4.out A2.out).mono ?_
  rintro e w5 ⟨rfl, i5, hb5⟩
  have b5 := below_step b4 hb5
  clear hb5 i4 b4
  go_wp2_with fail
  refine (HK.out.loads i5 _ 4 false _ _ ⟨by omega, by omega⟩ L5.out A4.out).mono ?_
  rintro e w6 ⟨rfl, i6, hb6⟩
  have b6 := below_step b5 hb6
  clear hb6 i5 b5
  go_wp2_with fail
  refine (HK.out.loads i6 _ 4 true _ _ ⟨by omega, by omega⟩ L6.out A4.out).mono ?_
  rintro e w7 ⟨rfl, i7, hb7⟩
  have b7 := below_step b6 hb7
  clear hb7 i6 b6
  clear L1 L2 L3 L4 L5 L6 A1 A2 A4 i7 T1 T2 T4 HK HX q0 q1
  by_cases hy : y < 128
  · have hc : c = y := by rw [HC.out, if_pos hy]
    subst hc
    by_cases hh : h < 32768
    · have hi : i = h := by rw [HI.out, if_pos hh]
      subst hi
      clear HC HI
      go_wp2_with (first | (go_at_call 10; refine (CE.out _ _).mono ?_; rintro e w' ⟨rfl, rfl⟩))
      refine (CW.out _).mono ?_
      rintro e w8 ⟨rfl, hb8⟩
      have b8 := below_step b7 hb8
      clear hb8 b7
      go_wp2
      go_ret
      exact ⟨rfl, b8⟩
    · have hi : i = h + 4294901760 := by rw [HI.out, if_neg hh]
      subst hi
      clear HC HI
      go_wp2_with (first | (go_at_call 10; refine (CE.out _ _).mono ?_; rintro e w' ⟨rfl, rfl⟩))
      refine (CW.out _).mono ?_
      rintro e w8 ⟨rfl, hb8⟩
      have b8 := below_step b7 hb8
      clear hb8 b7
      go_wp2
      go_ret
      exact ⟨rfl, b8⟩
  · have hc : c = y + 4294967040 := by rw [HC.out, if_neg hy]
    subst hc
    by_cases hh : h < 32768
    · have hi : i = h := by rw [HI.out, if_pos hh]
      subst hi
      clear HC HI
      go_wp2_with (first | (go_at_call 10; refine (CE.out _ _).mono ?_; rintro e w' ⟨rfl, rfl⟩))
      refine (CW.out _).mono ?_
      rintro e w8 ⟨rfl, hb8⟩
      have b8 := below_step b7 hb8
      clear hb8 b7
      go_wp2
      go_ret
      exact ⟨rfl, b8⟩
    · have hi : i = h + 4294901760 := by rw [HI.out, if_neg hh]
      subst hi
      clear HC HI
      go_wp2_with (first | (go_at_call 10; refine (CE.out _ _).mono ?_; rintro e w' ⟨rfl, rfl⟩))
      refine (CW.out _).mono ?_
      rintro e w8 ⟨rfl, hb8⟩
      have b8 := below_step b7 hb8
      clear hb8 b7
      go_wp2
      go_ret
      exact ⟨rfl, b8⟩

theorem memSigns {Is : World → Addr → List Int → (Nat → Prop) → Prop} (K : MemK Is) (x a : Int) (hx : U32 x) (a0 : 0 ≤ a) (a1 : a ≤ 255) (w : World) :
    Calls Try.prog 7 #[.int .u32 x, .int .u8 a] w fun e w' => e = .returned (.bool true) ∧ Below w.heap.size w w' :=
  memSigns_way K x a _ _ _ _ hx a0 a1 (bitsV_byte _ _).1 (bitsV_byte _ _).2 (bitsV_half _ _).1 (bitsV_half _ _).2 rfl rfl rfl rfl w
end Go.Proofs.Ytbfliilabkjkgaa
