/-
  What the operations on words of 32 bits come to, as plain functions of integers, and what follows of them: no Go in sight.
-/
import Derived.RowKit
import Derived.Laws.BitsAllLaws
namespace Go.Proofs.YtjgpojjbjgdfkaaDoor
open Go.RowKit

/-- Between 0 and 2^32 - 1. -/
def U32 (a : Int) : Prop := 0 ≤ a ∧ a < 4294967296

theorem u32_of {a : Int} (h : 0 ≤ a ∧ a ≤ 4294967295) : U32 a := ⟨h.1, by omega⟩

def wSlt (a b : Int) : Int := if wrap32 a < wrap32 b then 1 else 0
def wSltu (a b : Int) : Int := if a < b then 1 else 0
def wSll (a b : Int) : Int := a * 2 ^ (b % 32).toNat % 4294967296
def wSrl (a b : Int) : Int := a / 2 ^ (b % 32).toNat
def wSra (a b : Int) : Int := wrap32 a / 2 ^ (b % 32).toNat % 4294967296
def wMulh (a b : Int) : Int := wrap32 a * wrap32 b / 4294967296 % 4294967296
def wMulhsu (a b : Int) : Int := wrap32 a * b / 4294967296 % 4294967296
def wMulhu (a b : Int) : Int := a * b / 4294967296
def wDiv (a b : Int) : Int := if b = 0 then 4294967295 else (wrap32 a).tdiv (wrap32 b) % 4294967296
def wDivu (a b : Int) : Int := if b = 0 then 4294967295 else a / b
def wRem (a b : Int) : Int := if b = 0 then a else (wrap32 a).tmod (wrap32 b) % 4294967296
def wRemu (a b : Int) : Int := if b = 0 then a else a % b

/-- What the operation of that name makes; 'none': there is no such name. -/
def opV (s : List UInt8) (a b : Int) : Option Int :=
  if s == [97, 100, 100] then some ((a + b) % 4294967296)
  else if s == [115, 117, 98] then some ((a - b) % 4294967296)
  else if s == [115, 108, 108] then some (wSll a b)
  else if s == [115, 108, 116] then some (wSlt a b)
  else if s == [115, 108, 116, 117] then some (wSltu a b)
  else if s == [120, 111, 114] then some (bits .xor .u32 a b)
  else if s == [115, 114, 108] then some (wSrl a b)
  else if s == [115, 114, 97] then some (wSra a b)
  else if s == [111, 114] then some (bits .or .u32 a b)
  else if s == [97, 110, 100] then some (bits .and .u32 a b)
  else if s == [109, 117, 108] then some (a * b % 4294967296)
  else if s == [109, 117, 108, 104] then some (wMulh a b)
  else if s == [109, 117, 108, 104, 115, 117] then some (wMulhsu a b)
  else if s == [109, 117, 108, 104, 117] then some (wMulhu a b)
  else if s == [100, 105, 118] then some (wDiv a b)
  else if s == [100, 105, 118, 117] then some (wDivu a b)
  else if s == [114, 101, 109] then some (wRem a b)
  else if s == [114, 101, 109, 117] then some (wRemu a b)
  else none

def opN (s : List UInt8) (a b : Int) : Int := (opV s a b).getD 0
def opE (s : List UInt8) : Int := if (opV s 0 0).isSome then 0 else 1

theorem wrap32_bd (a : Int) : -2147483648 ≤ wrap32 a ∧ wrap32 a < 2147483648 := by unfold wrap32; omega
theorem wrap64_id {n : Int} (h : -9223372036854775808 ≤ n) (h' : n < 9223372036854775808) : wrap64 n = n := by unfold wrap64; omega
theorem wrap64_wrap32 (a : Int) : wrap64 (wrap32 a) = wrap32 a := by
  have := wrap32_bd a; exact wrap64_id (by omega) (by omega)
theorem wrap32_eq_zero {b : Int} (hb : U32 b) : wrap32 b = 0 ↔ b = 0 := by
  obtain ⟨h1, h2⟩ := hb; unfold wrap32; omega

theorem mul_bd {a b A B : Int} (ha : -A ≤ a) (ha' : a ≤ A) (hb : -B ≤ b) (hb' : b ≤ B) : -(A * B) ≤ a * b ∧ a * b ≤ A * B := by
  have hA : 0 ≤ A := by omega
  have hB : 0 ≤ B := by omega
  have h1 : a * b ≤ A * B := by
    rcases Int.le_total 0 b with h | h
    · exact Int.le_trans (Int.mul_le_mul_of_nonneg_right ha' h) (Int.mul_le_mul_of_nonneg_left hb' hA)
    · have e : a * b = (-a) * (-b) := (Int.neg_mul_neg a b).symm
      rw [e]
      exact Int.le_trans (Int.mul_le_mul_of_nonneg_right (by omega : -a ≤ A) (by omega)) (Int.mul_le_mul_of_nonneg_left (by omega) hA)
  have h2 : -(a * b) ≤ A * B := by
    rcases Int.le_total 0 b with h | h
    · have e : -(a * b) = (-a) * b := (Int.neg_mul a b).symm
      rw [e]
      exact Int.le_trans (Int.mul_le_mul_of_nonneg_right (by omega : -a ≤ A) h) (Int.mul_le_mul_of_nonneg_left hb' hA)
    · have e : -(a * b) = a * (-b) := (Int.mul_neg a b).symm
      rw [e]
      exact Int.le_trans (Int.mul_le_mul_of_nonneg_right ha' (by omega)) (Int.mul_le_mul_of_nonneg_left (by omega) hA)
  exact ⟨by omega, h1⟩

/-! ### The forms that the walk comes to -/
theorem mulh_form (a b : Int) : IntKind.u64.wrap (wrap64 (wrap64 (wrap32 a) * wrap64 (wrap32 b))) / 4294967296 % 4294967296 = wMulh a b := by
  rw [wrap64_wrap32, wrap64_wrap32, IntKind.wrap_u64]
  have h1 := wrap32_bd a
  have h2 := wrap32_bd b
  have h := mul_bd (a := wrap32 a) (b := wrap32 b) (A := 2147483648) (B := 2147483648) (by omega) (by omega) (by omega) (by omega)
  unfold wMulh
  generalize wrap32 a * wrap32 b = p at h ⊢
  rw [wrap64_id (by omega) (by omega)]
  omega
theorem mulhsu_form {a b : Int} (hb : U32 b) : IntKind.u64.wrap (wrap64 (wrap64 (wrap32 a) * b)) / 4294967296 % 4294967296 = wMulhsu a b := by
  rw [wrap64_wrap32, IntKind.wrap_u64]
  have h1 := wrap32_bd a
  obtain ⟨h2, h3⟩ := hb
  have h := mul_bd (a := wrap32 a) (b := b) (A := 2147483648) (B := 4294967295) (by omega) (by omega) (by omega) (by omega)
  unfold wMulhsu
  generalize wrap32 a * b = p at h ⊢
  rw [wrap64_id (by omega) (by omega)]
  omega
theorem mulhu_form {a b : Int} (ha : U32 a) (hb : U32 b) : IntKind.u64.wrap (a * b) / 4294967296 % 4294967296 = wMulhu a b := by
  rw [IntKind.wrap_u64]
  obtain ⟨h0, h1⟩ := ha
  obtain ⟨h2, h3⟩ := hb
  have h := mul_bd (a := a) (b := b) (A := 4294967295) (B := 4294967295) (by omega) (by omega) (by omega) (by omega)
  have h' : 0 ≤ a * b := Int.mul_nonneg h0 h2
  unfold wMulhu
  generalize a * b = p at h h' ⊢
  omega
theorem tdiv_bd (a b : Int) : -(a.natAbs : Int) ≤ a.tdiv b ∧ a.tdiv b ≤ a.natAbs := by
  have h : (a.tdiv b).natAbs ≤ a.natAbs := by rw [Int.natAbs_tdiv]; exact Nat.div_le_self _ _
  omega
theorem div_form {a b : Int} (hb : b ≠ 0) : wrap64 ((wrap64 (wrap32 a)).tdiv (wrap64 (wrap32 b))) % 4294967296 = wDiv a b := by
  rw [wrap64_wrap32, wrap64_wrap32]
  have h1 := wrap32_bd a
  have h := tdiv_bd (wrap32 a) (wrap32 b)
  unfold wDiv
  rw [if_neg hb, wrap64_id (by omega) (by omega)]
theorem rem_form {a b : Int} (hb : b ≠ 0) : (wrap64 (wrap32 a)).tmod (wrap64 (wrap32 b)) % 4294967296 = wRem a b := by
  rw [wrap64_wrap32, wrap64_wrap32]
  unfold wRem
  rw [if_neg hb]
theorem divu_form {a b : Int} (ha : U32 a) (hb : U32 b) (h : b ≠ 0) : a.tdiv b % 4294967296 = wDivu a b := by
  obtain ⟨h0, h1⟩ := ha
  obtain ⟨h2, h3⟩ := hb
  unfold wDivu
  rw [if_neg h, Int.tdiv_eq_ediv_of_nonneg h0]
  have h4 : 0 ≤ a / b := Int.ediv_nonneg h0 h2
  have h5 : a / b ≤ a := Int.ediv_le_self _ h0
  omega
theorem den_ne {b : Int} (hb : U32 b) (h : b ≠ 0) : wrap64 (wrap32 b) ≠ 0 := by
  rw [wrap64_wrap32]
  exact fun e => h ((wrap32_eq_zero hb).mp e)

/-! ### Every answer is a word -/
theorem bits_u32 (o : BinOp) (a b : Int) : U32 (bits o .u32 a b) := by
  unfold bits U32
  rw [IntKind.wrap_u32']
  omega
theorem pow_pos (n : Nat) : (0 : Int) < 2 ^ n := Int.pow_pos (by omega)
theorem wSrl_u32 {a : Int} (b : Int) (ha : U32 a) : U32 (wSrl a b) := by
  obtain ⟨h0, h1⟩ := ha
  unfold wSrl U32
  exact ⟨Int.ediv_nonneg h0 (Int.le_of_lt (pow_pos _)), Int.lt_of_le_of_lt (Int.ediv_le_self _ h0) h1⟩
theorem opV_step {c : Bool} {x y : Int} {r : Option Int} (hy : U32 y) (hr : r = some x → U32 x) (h : (if c then some y else r) = some x) : U32 x := by
  cases c with
  | true => simp at h; subst h; exact hy
  | false => exact hr (by simpa using h)
theorem opV_u32 {s : List UInt8} {a b x : Int} (ha : U32 a) (hb : U32 b) (h : opV s a b = some x) : U32 x := by
  have hm : ∀ y : Int, U32 (y % 4294967296) := fun y => by unfold U32; omega
  have h4 : U32 (wMulhu a b) := by
    rw [← mulhu_form ha hb]; exact hm _
  have h5 : U32 (wDiv a b) := by unfold wDiv; split; · simp [U32]
                                 · exact hm _
  have h6 : U32 (wDivu a b) := by
    by_cases h0 : b = 0
    · unfold wDivu; rw [if_pos h0]; simp [U32]
    · rw [← divu_form ha hb h0]; exact hm _
  have h7 : U32 (wRem a b) := by unfold wRem; split; · exact ha
                                 · exact hm _
  have h8 : U32 (wRemu a b) := by
    unfold wRemu; split
    · exact ha
    · rename_i h0
      obtain ⟨h2, h3⟩ := hb
      have := Int.emod_nonneg a h0
      have := Int.emod_lt_of_pos a (show 0 < b by omega)
      exact ⟨by omega, by omega⟩
  have h9 : U32 (wSlt a b) := by unfold wSlt; split <;> simp [U32]
  have h10 : U32 (wSltu a b) := by unfold wSltu; split <;> simp [U32]
  unfold opV at h
  revert h
  refine opV_step (hm _) ?_
  refine opV_step (hm _) ?_
  refine opV_step (hm _) ?_
  refine opV_step h9 ?_
  refine opV_step h10 ?_
  refine opV_step (bits_u32 _ _ _) ?_
  refine opV_step (wSrl_u32 _ ha) ?_
  refine opV_step (hm _) ?_
  refine opV_step (bits_u32 _ _ _) ?_
  refine opV_step (bits_u32 _ _ _) ?_
  refine opV_step (hm _) ?_
  refine opV_step (hm _) ?_
  refine opV_step (hm _) ?_
  refine opV_step h4 ?_
  refine opV_step h5 ?_
  refine opV_step h6 ?_
  refine opV_step h7 ?_
  refine opV_step h8 ?_
  intro e
  cases e
theorem opN_u32 (s : List UInt8) {a b : Int} (ha : U32 a) (hb : U32 b) : U32 (opN s a b) := by
  unfold opN
  cases h : opV s a b with
  | none => simp [U32]
  | some x => exact opV_u32 ha hb h

/-! ### Whether there is such a name does not hang on the words -/
theorem isSome_step {c : Bool} {y z : Int} {r q : Option Int} (h : r.isSome = q.isSome) : (if c then some y else r).isSome = (if c then some z else q).isSome := by
  cases c with
  | true => rfl
  | false => simpa using h
theorem opV_isSome (s : List UInt8) (a b c d : Int) : (opV s a b).isSome = (opV s c d).isSome := by
  unfold opV
  refine isSome_step ?_
  refine isSome_step ?_
  refine isSome_step ?_
  refine isSome_step ?_
  refine isSome_step ?_
  refine isSome_step ?_
  refine isSome_step ?_
  refine isSome_step ?_
  refine isSome_step ?_
  refine isSome_step ?_
  refine isSome_step ?_
  refine isSome_step ?_
  refine isSome_step ?_
  refine isSome_step ?_
  refine isSome_step ?_
  refine isSome_step ?_
  refine isSome_step ?_
  refine isSome_step ?_
  rfl
theorem opE_some {s : List UInt8} {a b x : Int} (h : opV s a b = some x) : opE s = 0 := by
  unfold opE; rw [opV_isSome s 0 0 a b, h]; rfl
theorem opE_none {s : List UInt8} {a b : Int} (h : opV s a b = none) : opE s = 1 := by
  unfold opE; rw [opV_isSome s 0 0 a b, h]; rfl

/-- What the statements' own 'op' answers: 77 of an error. -/
def opF (s : List UInt8) (a b : Int) : Int := (opV s a b).getD 77
theorem opF_u32 (s : List UInt8) {a b : Int} (ha : U32 a) (hb : U32 b) : U32 (opF s a b) := by
  unfold opF
  cases h : opV s a b with
  | none => simp [U32]
  | some x => exact opV_u32 ha hb h

theorem beq_of {x y : Int} (h : x = y) : (x == y) = true := by simpa using h
theorem opF_add (a b : Int) : opF [97, 100, 100] a b = (a + b) % 4294967296 := rfl
theorem opF_sub (a b : Int) : opF [115, 117, 98] a b = (a - b) % 4294967296 := rfl
theorem opF_sll (a b : Int) : opF [115, 108, 108] a b = wSll a b := rfl
theorem opF_slt (a b : Int) : opF [115, 108, 116] a b = wSlt a b := rfl
theorem opF_sltu (a b : Int) : opF [115, 108, 116, 117] a b = wSltu a b := rfl
theorem opF_xor (a b : Int) : opF [120, 111, 114] a b = bits .xor .u32 a b := rfl
theorem opF_srl (a b : Int) : opF [115, 114, 108] a b = wSrl a b := rfl
theorem opF_sra (a b : Int) : opF [115, 114, 97] a b = wSra a b := rfl
theorem opF_or (a b : Int) : opF [111, 114] a b = bits .or .u32 a b := rfl
theorem opF_and (a b : Int) : opF [97, 110, 100] a b = bits .and .u32 a b := rfl
theorem opF_mul (a b : Int) : opF [109, 117, 108] a b = a * b % 4294967296 := rfl
theorem opF_mulh (a b : Int) : opF [109, 117, 108, 104] a b = wMulh a b := rfl
theorem opF_mulhsu (a b : Int) : opF [109, 117, 108, 104, 115, 117] a b = wMulhsu a b := rfl
theorem opF_mulhu (a b : Int) : opF [109, 117, 108, 104, 117] a b = wMulhu a b := rfl
theorem opF_div (a b : Int) : opF [100, 105, 118] a b = wDiv a b := rfl
theorem opF_divu (a b : Int) : opF [100, 105, 118, 117] a b = wDivu a b := rfl
theorem opF_rem (a b : Int) : opF [114, 101, 109] a b = wRem a b := rfl
theorem opF_remu (a b : Int) : opF [114, 101, 109, 117] a b = wRemu a b := rfl

/-- The lowest n bits of x as a number with a sign. -/
def sextV (x n : Int) : Int := if n < 1 ∨ 32 < n then 0 else wrap32 (x * 2 ^ (32 - n).toNat % 4294967296) / 2 ^ (32 - n).toNat % 4294967296
/-- n bits of x from the bit lo on. -/
def bitsV (x lo n : Int) : Int := if lo < 0 ∨ 31 < lo ∨ n < 1 ∨ 32 - lo < n then 0 else x * 2 ^ (32 - lo - n).toNat % 4294967296 / 2 ^ (32 - n).toNat
theorem sextV_u32 (x n : Int) : U32 (sextV x n) := by
  unfold sextV U32; split
  · omega
  · exact ⟨Int.emod_nonneg _ (by omega), Int.emod_lt_of_pos _ (by omega)⟩
theorem bitsV_u32 (x lo n : Int) : U32 (bitsV x lo n) := by
  unfold bitsV; split
  · simp [U32]
  · have h0 : 0 ≤ x * 2 ^ (32 - lo - n).toNat % 4294967296 := Int.emod_nonneg _ (by omega)
    have h1 : x * 2 ^ (32 - lo - n).toNat % 4294967296 < 4294967296 := Int.emod_lt_of_pos _ (by omega)
    exact ⟨Int.ediv_nonneg h0 (Int.le_of_lt (pow_pos _)), Int.lt_of_le_of_lt (Int.ediv_le_self _ h0) h1⟩

end Go.Proofs.YtjgpojjbjgdfkaaDoor
