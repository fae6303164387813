/-
  A word's bytes and halves; a byte that is stored.
-/
import Derived.Test.YtbfliilabkjkgaaLaws3
namespace Go.Proofs.Ytbfliilabkjkgaa
open Go.RowKit

theorem or_comm_u32 {x y : Int} (hx : U32 x) (hy : U32 y) : bits .or .u32 x y = bits .or .u32 y x := by
  obtain ⟨X, rfl⟩ := Int.eq_ofNat_of_zero_le hx.1
  obtain ⟨Y, rfl⟩ := Int.eq_ofNat_of_zero_le hy.1
  have h1 : X < 4294967296 := by have := hx.2; omega
  have h2 : Y < 4294967296 := by have := hy.2; omega
  rw [u32_or_nat X Y h1 h2, u32_or_nat Y X h2 h1, Nat.or_comm]

/-- The low j bits, and n more. -/
theorem or_more {x : Int} (j n : Nat) (hn : 1 ≤ n) (h : j + n ≤ 32) (hx : U32 x) : bits .or .u32 (x % 2 ^ j) (bitsV x j n * 2 ^ j % 4294967296) = x % 2 ^ (j + n) := by
  obtain ⟨X, rfl⟩ := Int.eq_ofNat_of_zero_le hx.1
  rw [bitsV_nat X j n (by omega) hn h]
  have hp : (2 : Nat) ^ (j + n) ≤ 2 ^ 32 := Nat.pow_le_pow_right (by decide) h
  have e0 : X / 2 ^ j % 2 ^ n * 2 ^ j + X % 2 ^ j = X % 2 ^ (j + n) := by
    rw [Nat.pow_add, Nat.mod_mul, Nat.add_comm, Nat.mul_comm]
  have e1 : X % 2 ^ (j + n) < 2 ^ (j + n) := Nat.mod_lt _ (Nat.two_pow_pos _)
  have e2 : X / 2 ^ j % 2 ^ n * 2 ^ j < 2 ^ 32 := by omega
  have e3 : ((X / 2 ^ j % 2 ^ n : Nat) : Int) * 2 ^ j % 4294967296 = ((X / 2 ^ j % 2 ^ n * 2 ^ j : Nat) : Int) := by
    rw [show (4294967296 : Int) = ((2 ^ 32 : Nat) : Int) from rfl, show ((X / 2 ^ j % 2 ^ n : Nat) : Int) * 2 ^ j = ((X / 2 ^ j % 2 ^ n * 2 ^ j : Nat) : Int) by simp, ← Int.natCast_emod, Nat.mod_eq_of_lt e2]
  rw [e3]
  have u1 : U32 ((X : Int) % 2 ^ j) := ⟨Int.emod_nonneg _ (by have := Int.pow_pos (n := 2) (m := j) (by decide); omega), by
    have : ((X : Int) % 2 ^ j) = ((X % 2 ^ j : Nat) : Int) := by simp
    rw [this]
    omega⟩
  have u2 : U32 ((X / 2 ^ j % 2 ^ n * 2 ^ j : Nat) : Int) := ⟨by omega, by omega⟩
  rw [or_comm_u32 u1 u2, or_add j (by omega) u2 u1.1 (Int.emod_lt_of_pos _ (Int.pow_pos (by decide))) (by
    have : ((X / 2 ^ j % 2 ^ n * 2 ^ j : Nat) : Int) % 2 ^ j = ((X / 2 ^ j % 2 ^ n * 2 ^ j % 2 ^ j : Nat) : Int) := by simp
    rw [this, Nat.mul_mod_left]; rfl)]
  have : ((X : Int) % 2 ^ j) = ((X % 2 ^ j : Nat) : Int) := by simp
  rw [this]
  have h4 : ((X : Int) % 2 ^ (j + n)) = ((X % 2 ^ (j + n) : Nat) : Int) := by simp
  rw [h4, ← e0]
  simp

theorem three_at (x p : Int) (h0 : 4 ≤ p) (h1 : p < 8) : wordAt [7, x, 9] (p / 4).toNat = x := by
  have h : (p / 4).toNat = 1 := by omega
  rw [h]; rfl
theorem ask_three (p k : Int) (hk : k = 1 ∨ k = 2 ∨ k = 4) (hp : p % k = 0) (h1 : p < 8) : askV 3 p k = 0 := by
  unfold askV
  rw [if_neg (by rw [(sizeV_iff k).2 hk]; decide), if_neg (by omega), if_neg (by omega)]
theorem load_three (x p k : Int) (hk : k = 1 ∨ k = 2 ∨ k = 4) (hp : p % k = 0) (h0 : 4 ≤ p) (h1 : p < 8) : loadN [7, x, 9].length [7, x, 9] p k false = bitsV x (p % 4 * 8) (8 * k) := by
  have e : askV [7, x, 9].length p k = 0 := ask_three p k hk hp h1
  unfold loadN
  rw [if_pos e]
  unfold loadV
  rw [three_at x p h0 h1]
  rfl

theorem store_three (x y q : Int) (q0 : 0 ≤ q) (q1 : q < 4) : storeL [7, x, 9] (4 + q) 1 y = [7, bits .or .u32 (bits .andNot .u32 x (255 * 2 ^ (8 * q).toNat % 4294967296)) (bits .and .u32 (y * 2 ^ (8 * q).toNat % 4294967296) (255 * 2 ^ (8 * q).toNat % 4294967296)), 9] := by
  have e : askV [7, x, 9].length (4 + q) 1 = 0 := ask_three _ 1 (by omega) (by omega) (by omega)
  unfold storeL
  rw [if_pos e, three_at x _ (by omega) (by omega), show ((4 + q) / 4).toNat = 1 by omega]
  unfold storeV maskV
  rw [show (4 + q) % 4 * 8 = 8 * q by omega, show bitsV 4294967295 0 (8 * 1) = 255 by decide +kernel]
  rfl

set_option maxRecDepth 100000 in
set_option maxHeartbeats 4000000 in
theorem memBytes {Is : World → Addr → List Int → (Nat → Prop) → Prop} (K : MemK Is) (x y a : Int) (hx : U32 x) (hy : U32 y) (a0 : 0 ≤ a) (a1 : a ≤ 255) (w : World) :
    Calls Try.prog 4 #[.int .u32 x, .int .u32 y, .int .u8 a] w fun e w' => e = .returned (.bool true) ∧ Below w.heap.size w w' := by
  have CE : Hid _ := mErr
  have CW : Hid _ := mawake K
  have HK : Hid _ := K
  clear K
  have HX : Hid (U32 x) := hx
  have HY : Hid (U32 y) := hy
  clear hx hy
  go_enter Try.func4, Try.ntmps4
  go_wp2_with fail
  refine (HK.out.new w.heap.size 0 3 3 [7, x, 9] _ rfl (by decide) (by decide) (by decide) (by intro z hz; simp at hz; rcases hz with rfl | rfl | rfl; exact ⟨by decide, by decide⟩; exact HX.out; exact ⟨by decide, by decide⟩) (row_new w [7, x, 9] _)).mono ?_
  rintro e w1 ⟨m, O, rfl, i1, hO, hb1⟩
  have hO' : Hid (∀ k, O k → w.heap.size ≤ k) := fun k hk => Nat.le_trans (by simp) (hO k hk)
  have b1 := below_first hb1
  clear hb1 hO
  go_wp2_with (first | (go_at_call 10; refine (CE.out _ _).mono ?_; rintro e w' ⟨rfl, rfl⟩))
  go_loopw [9, 11, 12, 13] (fun s i _ _ wr => ∃ k : Nat, k ≤ 4 ∧ i = .int .u32 k ∧ s = .int .u32 (x % 2 ^ (8 * k)) ∧ Hid (Is wr m [7, x, 9] O ∧ Below w.heap.size w wr)) (fun _ i _ _ _ => 4 - (intOf i).toNat)
  case atStart => exact ⟨0, Nat.zero_le _, rfl, by simp, i1, b1⟩
  case round =>
    obtain ⟨k, hk, rfl, rfl, hi⟩ := hrel
    by_cases hlt : k < 4
    · have HL : Hid (loadN [7, x, 9].length [7, x, 9] (4 + (k : Int)) 1 false = bitsV x (8 * (k : Int)) 8) := by
        show _ = _
        rw [load_three x _ 1 (by omega) (by omega) (by omega) (by omega), show (4 + (k : Int)) % 4 * 8 = 8 * (k : Int) by omega]; rfl
      have HA : Hid (askV [7, x, 9].length (4 + (k : Int)) 1 = 0) := ask_three _ 1 (by omega) (by omega) (by omega)
      have HV : Hid (bits .or .u32 (x % 2 ^ (8 * k)) (bitsV x (8 * (k : Int)) 8 * 2 ^ (8 * k) % 4294967296) = x % 2 ^ (8 * (k + 1))) := by
        have h := or_more (8 * k) 8 (by omega) (by omega) HX.out
        exact h
      have u := bitsV_byte x (8 * (k : Int))
      generalize bitsV x (8 * (k : Int)) 8 = z at *
      have hu : 0 ≤ x % 2 ^ (8 * k) := Int.emod_nonneg _ (by have := Int.pow_pos (n := 2) (m := 8 * k) (by decide); omega)
      obtain ⟨u0, u1⟩ := u
      go_wp2_with fail
      refine (HK.out.loads hi.out.1 _ 1 false _ _ ⟨by omega, by omega⟩ HL.out HA.out).mono ?_
      rintro e w2 ⟨rfl, i2, hb2⟩
      have b2 := below_step hi.out.2 hb2
      clear hb2
      go_wp2_with (first | (go_at_call 10; refine (CE.out _ _).mono ?_; rintro e w' ⟨rfl, rfl⟩))
      exact ⟨⟨k + 1, hlt, by simp, by rw [HV.out], i2, b2⟩, by simp [intOf]; omega⟩
    · have hk4 : k = 4 := by omega
      subst hk4
      rw [show x % 2 ^ (8 * 4) = x by have := HX.out.1; have := HX.out.2; omega, show ((4 : Nat) : Int) = 4 from rfl]
      obtain ⟨i3, b3⟩ := hi.out
      clear hi i1 b1 hk hlt
      go_wp2_with fail
      go_loopw [10, 14, 15, 16] (fun s i _ _ wr => ∃ k : Nat, k ≤ 2 ∧ i = .int .u32 k ∧ s = .int .u32 (x % 2 ^ (16 * k)) ∧ Hid (Is wr m [7, x, 9] O ∧ Below w.heap.size w wr)) (fun _ i _ _ _ => 2 - (intOf i).toNat)
      case atStart => exact ⟨0, Nat.zero_le _, rfl, by simp, i3, b3⟩
      case round =>
        clear i3 b3
        obtain ⟨k, hk, rfl, rfl, hi⟩ := hrel
        by_cases hlt : k < 2
        · have HL : Hid (loadN [7, x, 9].length [7, x, 9] (4 + 2 * (k : Int)) 2 false = bitsV x (16 * (k : Int)) 16) := by
            show _ = _
            rw [load_three x _ 2 (by omega) (by omega) (by omega) (by omega), show (4 + 2 * (k : Int)) % 4 * 8 = 16 * (k : Int) by omega]; rfl
          have HA : Hid (askV [7, x, 9].length (4 + 2 * (k : Int)) 2 = 0) := ask_three _ 2 (by omega) (by omega) (by omega)
          have HV : Hid (bits .or .u32 (x % 2 ^ (16 * k)) (bitsV x (16 * (k : Int)) 16 * 2 ^ (16 * k) % 4294967296) = x % 2 ^ (16 * (k + 1))) := by
            have h := or_more (16 * k) 16 (by omega) (by omega) HX.out
            exact h
          have u := bitsV_half x (16 * (k : Int))
          generalize bitsV x (16 * (k : Int)) 16 = z at *
          have hu : 0 ≤ x % 2 ^ (16 * k) := Int.emod_nonneg _ (by have := Int.pow_pos (n := 2) (m := 16 * k) (by decide); omega)
          obtain ⟨u0, u1⟩ := u
          go_wp2_with fail
          refine (HK.out.loads hi.out.1 _ 2 false _ _ ⟨by omega, by omega⟩ HL.out HA.out).mono ?_
          rintro e w2 ⟨rfl, i2, hb2⟩
          have b2 := below_step hi.out.2 hb2
          clear hb2
          go_wp2_with (first | (go_at_call 10; refine (CE.out _ _).mono ?_; rintro e w' ⟨rfl, rfl⟩))
          exact ⟨⟨k + 1, hlt, by simp, by rw [HV.out], i2, b2⟩, by simp [intOf]; omega⟩
        · have hk2 : k = 2 := by omega
          subst hk2
          rw [show x % 2 ^ (16 * 2) = x by have := HX.out.1; have := HX.out.2; omega, show ((2 : Nat) : Int) = 2 from rfl]
          obtain ⟨i4, b4⟩ := hi.out
          clear hi hk hlt
          have T1 : a.tmod 4 = a % 4 := Int.tmod_eq_emod_of_nonneg a0
          have q0 : 0 ≤ a % 4 := by omega
          have q1 : a % 4 < 4 := by omega
          go_wp2_with fail
          have HS : Hid (storeL [7, x, 9] (4 + a % 4) 1 y = [7, bits .or .u32 (bits .andNot .u32 x (255 * 2 ^ (8 * (a % 4)).toNat % 4294967296)) (bits .and .u32 (y * 2 ^ (8 * (a % 4)).toNat % 4294967296) (255 * 2 ^ (8 * (a % 4)).toNat % 4294967296)), 9]) := store_three x y (a % 4) q0 q1
          refine (HK.out.stores i4 _ 1 y _ _ ⟨by omega, by omega⟩ HY.out HS.out (ask_three _ 1 (by omega) (by omega) (by omega))).mono ?_
          rintro e w5 ⟨rfl, ⟨O', i5, -⟩, ap⟩
          have b5 := ap.below b4 hO'.out
          clear ap b4 i4 HS
          go_wp2_with fail
          refine (HK.out.words i5).mono ?_
          rintro e w6 ⟨b, cap, rfl, -, -, hc, -, hb6⟩
          have b6 := below_step b5 hb6
          have c0 := hc 0 (by simp)
          have c1 := hc 1 (by simp)
          have c2 := hc 2 (by simp)
          simp only [wordAt, List.getD_cons_zero, List.getD_cons_succ] at c0 c1 c2
          clear hc hb6 b5 i5
          simp only [List.length_cons, List.length_nil]
          go_wp2_with (first | (go_at_call 10; refine (CE.out _ _).mono ?_; rintro e w' ⟨rfl, rfl⟩))
          refine (CW.out _).mono ?_
          rintro e w8 ⟨rfl, hb8⟩
          have b8 := below_step b6 hb8
          clear hb8 b6 c0 c1 c2
          go_wp2
          go_ret
          exact ⟨rfl, b8⟩
end Go.Proofs.Ytbfliilabkjkgaa
