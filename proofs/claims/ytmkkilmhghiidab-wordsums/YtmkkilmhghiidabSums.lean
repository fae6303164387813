/-
  For every two words, the statement WordSums of the Go text answers true: sums, bits and what is turned twice; no condition beside the row's own.
-/
import Derived.Test.YtmkkilmhghiidabWords
namespace Go.Proofs.Ytmkkilmhghiidab
open Go.RowKit

theorem xor_and_or (n : Nat) : ∀ a b : Nat, a ≤ n → (a ^^^ b) + 2 * (a &&& b) = a + b ∧ (a ^^^ b) + (a &&& b) = a ||| b := by
  induction n with
  | zero =>
    intro a b h
    obtain rfl : a = 0 := by omega
    simp
  | succ n ih =>
    intro a b h
    by_cases h0 : a = 0
    · subst h0; simp
    obtain ⟨i1, i2⟩ := ih (a / 2) (b / 2) (by omega)
    rw [← Nat.xor_div_two, ← Nat.and_div_two, ← Nat.or_div_two] at i2
    rw [← Nat.xor_div_two, ← Nat.and_div_two] at i1
    have m1 := Nat.xor_mod_two_pow (a := a) (b := b) (n := 1)
    have m2 := Nat.and_mod_two_pow (a := a) (b := b) (n := 1)
    have m3 := Nat.or_mod_two_pow (a := a) (b := b) (n := 1)
    have d1 : a % 2 = 0 ∨ a % 2 = 1 := by omega
    have d2 : b % 2 = 0 ∨ b % 2 = 1 := by omega
    simp only [Nat.pow_one] at m1 m2 m3
    have q1 : (0 : Nat) ^^^ 0 = 0 := rfl
    have q2 : (0 : Nat) ^^^ 1 = 1 := rfl
    have q3 : (1 : Nat) ^^^ 0 = 1 := rfl
    have q4 : (1 : Nat) ^^^ 1 = 0 := rfl
    have r1 : (0 : Nat) &&& 0 = 0 := rfl
    have r2 : (0 : Nat) &&& 1 = 0 := rfl
    have r3 : (1 : Nat) &&& 0 = 0 := rfl
    have r4 : (1 : Nat) &&& 1 = 1 := rfl
    have s1 : (0 : Nat) ||| 0 = 0 := rfl
    have s2 : (0 : Nat) ||| 1 = 1 := rfl
    have s3 : (1 : Nat) ||| 0 = 1 := rfl
    have s4 : (1 : Nat) ||| 1 = 1 := rfl
    rcases d1 with d1 | d1 <;> rcases d2 with d2 | d2 <;> rw [d1, d2] at m1 m2 m3 <;> simp only [q1, q2, q3, q4, r1, r2, r3, r4, s1, s2, s3, s4] at m1 m2 m3 <;> constructor <;> omega

theorem sum1 {a b : Int} (ha : U32 a) (hb : U32 b) : (opF [115, 117, 98] (opF [97, 100, 100] a b) b == a) = true := by
  obtain ⟨h0, h1⟩ := ha
  obtain ⟨h2, h3⟩ := hb
  refine beq_of ?_
  rw [opF_sub, opF_add]; omega
theorem sum2 (a b : Int) : (opF [97, 100, 100] a b == opF [97, 100, 100] b a) = true := by
  refine beq_of ?_
  rw [opF_add, opF_add, Int.add_comm]
theorem sum3 {a b : Int} (ha : U32 a) (hb : U32 b) : (opF [120, 111, 114] a b == (opF [111, 114] a b - opF [97, 110, 100] a b) % 4294967296) = true := by
  obtain ⟨h0, h1⟩ := ha
  obtain ⟨h2, h3⟩ := hb
  refine beq_of ?_
  rw [opF_xor, opF_or, opF_and, u32_xor a b h0 h1 h2 h3, u32_or a b h0 h1 h2 h3, u32_and a b h0 h1 h2 h3]
  have h := (xor_and_or a.toNat a.toNat b.toNat (Nat.le_refl _)).2
  have hx : a.toNat ^^^ b.toNat < 2 ^ 32 := Nat.xor_lt_two_pow (by omega) (by omega)
  omega
theorem sum4 {a b : Int} (ha : U32 a) (hb : U32 b) : ((opF [120, 111, 114] a b + 2 * opF [97, 110, 100] a b) % 4294967296 == (a + b) % 4294967296) = true := by
  obtain ⟨h0, h1⟩ := ha
  obtain ⟨h2, h3⟩ := hb
  refine beq_of ?_
  rw [opF_xor, opF_and, u32_xor a b h0 h1 h2 h3, u32_and a b h0 h1 h2 h3]
  have h := (xor_and_or a.toNat a.toNat b.toNat (Nat.le_refl _)).1
  omega
theorem sum5 {a b : Int} (ha : U32 a) (hb : U32 b) : (opF [120, 111, 114] (opF [120, 111, 114] a b) b == a) = true := by
  have hx := bits_u32 .xor a b
  obtain ⟨h0, h1⟩ := ha
  obtain ⟨h2, h3⟩ := hb
  obtain ⟨h4, h5⟩ := hx
  refine beq_of ?_
  rw [opF_xor, opF_xor, u32_xor _ b h4 h5 h2 h3, u32_xor a b h0 h1 h2 h3, Int.toNat_natCast, Nat.xor_assoc, Nat.xor_self, Nat.xor_zero]
  omega
theorem sum6 {a : Int} (ha : U32 a) : (opF [115, 117, 98] 0 (opF [115, 117, 98] 0 a) == a) = true := by
  obtain ⟨h0, h1⟩ := ha
  refine beq_of ?_
  rw [opF_sub, opF_sub]; omega
theorem sum7 (a : Int) : (opF [109, 117, 108] a 2 == opF [115, 108, 108] a 1) = true := by
  refine beq_of ?_
  rw [opF_mul, opF_sll]
  show a * 2 % 4294967296 = a * 2 ^ 1 % 4294967296
  omega
theorem sum8 (a : Int) : (opF [109, 117, 108] a 4294967295 == opF [115, 117, 98] 0 a) = true := by
  refine beq_of ?_
  rw [opF_mul, opF_sub]; omega

set_option maxRecDepth 100000 in
set_option maxHeartbeats 1000000 in
theorem wordSums (a b : Int) (ha : U32 a) (hb : U32 b) (w : World) :
    Calls Try.prog 3 #[.int .u32 a, .int .u32 b] w fun e w' => e = .returned (.bool true) ∧ w' = w := by
  have Ha : Hid (U32 a) := ha
  have Hb : Hid (U32 b) := hb
  have f1 := sum1 ha hb
  have f2 := sum2 a b
  have f3 := sum3 ha hb
  have f4 := sum4 ha hb
  have f5 := sum5 ha hb
  have f6 := sum6 ha
  have f7 := sum7 a
  have f8 := sum8 a
  have Hx := opF_u32 [120, 111, 114] ha hb
  have Hs := opF_u32 [97, 100, 100] ha hb
  have Hd := opF_u32 [115, 117, 98] (a := 0) ⟨by omega, by omega⟩ ha
  have n0 := (opF_u32 [97, 110, 100] ha hb).1
  have n1 := (opF_u32 [97, 110, 100] ha hb).2
  have o0 := (opF_u32 [111, 114] ha hb).1
  have o1 := (opF_u32 [111, 114] ha hb).2
  generalize hx : opF [120, 111, 114] a b = x at f3 f4 f5 Hx
  generalize hn : opF [97, 110, 100] a b = n at f3 f4 n0 n1
  generalize ho : opF [111, 114] a b = o at f3 o0 o1
  generalize hs : opF [97, 100, 100] a b = s at f1 f2 Hs
  generalize ht : opF [97, 100, 100] b a = t at f2
  generalize hd : opF [115, 117, 98] 0 a = d at f6 f8 Hd
  generalize hu : opF [115, 117, 98] s b = u at f1
  generalize hy : opF [120, 111, 114] x b = y at f5
  generalize hv : opF [115, 117, 98] 0 d = v at f6
  generalize hp : opF [109, 117, 108] a 2 = p at f7
  generalize hq : opF [115, 108, 108] a 1 = q at f7
  generalize hr : opF [109, 117, 108] a 4294967295 = r at f8
  have HX : Hid (U32 x) := Hx
  have HS : Hid (U32 s) := Hs
  have HD : Hid (U32 d) := Hd
  obtain ⟨x0, x1⟩ := Hx
  clear Hs Hd
  obtain ⟨ha0, ha1⟩ := ha
  obtain ⟨hb0, hb1⟩ := hb
  go_enter Try.func3, Try.ntmps3
  go_wp2_with fail
  refine (op_ _ _ _ Ha Hb _).mono ?_
  rintro e w' ⟨rfl, rfl⟩
  go_wp2_with fail
  refine (op_ _ _ _ Ha Hb _).mono ?_
  rintro e w' ⟨rfl, rfl⟩
  go_wp2_with fail
  refine (op_ _ _ _ Ha Hb _).mono ?_
  rintro e w' ⟨rfl, rfl⟩
  go_wp2_with fail
  refine (op_ _ _ _ Ha Hb _).mono ?_
  rintro e w' ⟨rfl, rfl⟩
  go_wp2_with fail
  refine (op_ _ _ _ HS Hb _).mono ?_
  rintro e w' ⟨rfl, rfl⟩
  go_wp2_with fail
  refine (op_ _ _ _ Ha Hb _).mono ?_
  rintro e w' ⟨rfl, rfl⟩
  go_wp2_with fail
  refine (op_ _ _ _ Hb Ha _).mono ?_
  rintro e w' ⟨rfl, rfl⟩
  go_wp2_with fail
  refine (op_ _ _ _ HX Hb _).mono ?_
  rintro e w' ⟨rfl, rfl⟩
  go_wp2_with fail
  refine (op_ _ _ _ ⟨by omega, by omega⟩ Ha _).mono ?_
  rintro e w' ⟨rfl, rfl⟩
  go_wp2_with fail
  refine (op_ _ _ _ ⟨by omega, by omega⟩ HD _).mono ?_
  rintro e w' ⟨rfl, rfl⟩
  go_wp2_with fail
  refine (op_ _ _ _ Ha ⟨by omega, by omega⟩ _).mono ?_
  rintro e w' ⟨rfl, rfl⟩
  go_wp2_with fail
  refine (op_ _ _ _ Ha ⟨by omega, by omega⟩ _).mono ?_
  rintro e w' ⟨rfl, rfl⟩
  go_wp2_with fail
  refine (op_ _ _ _ Ha ⟨by omega, by omega⟩ _).mono ?_
  rintro e w' ⟨rfl, rfl⟩
  go_wp2_with fail
  refine (op_ _ _ _ ⟨by omega, by omega⟩ Ha _).mono ?_
  rintro e w' ⟨rfl, rfl⟩
  go_wp2_with fail
  refine (awake _).mono ?_
  rintro e w' ⟨rfl, rfl⟩
  go_wp2_with fail
  go_ret
  exact ⟨rfl, rfl⟩
end Go.Proofs.Ytmkkilmhghiidab
