/-
  Bits of a word of Status, put one behind the other: what they make together.
-/
import Derived.Test.YtmmaoncgfmfbjaaCna
namespace Go.Proofs.Ytmmaoncgfmfbjaa
open Go.RowKit

theorem bvo (X Y : BitVec 32) : bits .or .u32 (X.toNat : Int) (Y.toNat : Int) = ((X ||| Y).toNat : Int) := by rw [u32_or_nat _ _ X.isLt Y.isLt, BitVec.toNat_or]
theorem bva (X Y : BitVec 32) : bits .and .u32 (X.toNat : Int) (Y.toNat : Int) = ((X &&& Y).toNat : Int) := by rw [u32_and_nat _ _ X.isLt Y.isLt, BitVec.toNat_and]
theorem bvn (X Y : BitVec 32) : bits .andNot .u32 (X.toNat : Int) (Y.toNat : Int) = ((X &&& ~~~Y).toNat : Int) := by
  rw [u32_andNot_nat _ _ X.isLt Y.isLt, BitVec.toNat_and, BitVec.toNat_not]
theorem bvx {x : Int} (h : U32 x) : x = ((BitVec.ofNat 32 x.toNat).toNat : Int) := by
  obtain ⟨h0, h1⟩ := h
  rw [BitVec.toNat_ofNat, Nat.mod_eq_of_lt (by omega)]
  omega
theorem bv_trap (X : BitVec 32) (p q : Bool) : ((((X &&& ~~~128#32) ||| (if p then 128#32 else 0#32)) &&& ~~~8#32 ||| 0#32) &&& ~~~6144#32 ||| (if q then 6144#32 else 0#32)) = (if q then (if p then (X &&& ~~~6280#32) ||| 128#32 else X &&& ~~~6280#32) ||| 6144#32 else (if p then (X &&& ~~~6280#32) ||| 128#32 else X &&& ~~~6280#32)) := by
  apply BitVec.eq_of_getLsbD_eq
  intro i hi
  cases p <;> cases q <;> simp only [Bool.false_eq_true, if_false, if_true, BitVec.getLsbD_or, BitVec.getLsbD_and, BitVec.getLsbD_not] <;> generalize X.getLsbD i = t <;> revert t <;> revert i <;> decide +kernel
theorem bv_ret (X : BitVec 32) (p : Bool) : ((((X &&& ~~~8#32) ||| (if p then 8#32 else 0#32)) &&& ~~~128#32 ||| 128#32) &&& ~~~6144#32 ||| 0#32) = (if p then ((X &&& ~~~6152#32) ||| 128#32) ||| 8#32 else (X &&& ~~~6152#32) ||| 128#32) := by
  apply BitVec.eq_of_getLsbD_eq
  intro i hi
  cases p <;> simp only [Bool.false_eq_true, if_false, if_true, BitVec.getLsbD_or, BitVec.getLsbD_and, BitVec.getLsbD_not] <;> generalize X.getLsbD i = t <;> revert t <;> revert i <;> decide +kernel
theorem bv_stat (X : BitVec 32) : (((X &&& 136#32) &&& ~~~6144#32) ||| 6144#32) = (X &&& 136#32) ||| 6144#32 := by
  apply BitVec.eq_of_getLsbD_eq
  intro i hi
  simp only [BitVec.getLsbD_or, BitVec.getLsbD_and, BitVec.getLsbD_not]
  generalize X.getLsbD i = t
  revert t
  revert i
  decide +kernel

theorem c8 : ((8#32).toNat : Int) = 8 := rfl
theorem c128 : ((128#32).toNat : Int) = 128 := rfl
theorem c136 : ((136#32).toNat : Int) = 136 := rfl
theorem c0 : ((0#32).toNat : Int) = 0 := rfl
theorem c6144 : ((6144#32).toNat : Int) = 6144 := rfl
theorem c6280 : ((6280#32).toNat : Int) = 6280 := rfl
theorem c6152 : ((6152#32).toNat : Int) = 6152 := rfl
theorem bit_two {x : Int} (hx : U32 x) (l : Nat) (hl : l < 32) : bitsV x l 1 = 0 ∨ bitsV x l 1 = 1 := by
  have h := bitsV_int hx l 1 hl (by decide) (by omega)
  rw [show ((1 : Nat) : Int) = 1 from rfl] at h
  rw [h, Int.pow_one]
  omega
theorem trap_form {s : Int} (hs : U32 s) (u : Bool) : bits .or .u32 (bits .andNot .u32 (bits .or .u32 (bits .andNot .u32 (bits .or .u32 (bits .andNot .u32 s 128) (bitsV s 3 1 * 128 % 4294967296)) 8) 0) 6144) ((if u then 0 else 3) * 2048 % 4294967296) = trapS s u := by
  have h3 := bit_two hs 3 (by decide)
  rw [show ((3 : Nat) : Int) = 3 from rfl] at h3
  unfold trapS
  generalize bitsV s 3 1 = y at *
  rw [bvx hs]
  generalize BitVec.ofNat 32 s.toNat = X
  have e : ∀ p q : Bool, _ := fun p q => congrArg (fun v : BitVec 32 => (v.toNat : Int)) (bv_trap X p q)
  rcases h3 with rfl | rfl <;> cases u
  · have e1 := e false true
    simp only [Bool.false_eq_true, if_false, if_true, ← bvo, ← bvn, c8, c128, c0, c6144, c6280] at e1
    simpa using e1
  · have e1 := e false false
    simp only [Bool.false_eq_true, if_false, ← bvo, ← bvn, c8, c128, c0, c6144, c6280] at e1
    simpa using e1
  · have e1 := e true true
    simp only [if_true, ← bvo, ← bvn, c8, c128, c0, c6144, c6280] at e1
    simpa using e1
  · have e1 := e true false
    simp only [Bool.false_eq_true, if_false, if_true, ← bvo, ← bvn, c8, c128, c0, c6144, c6280] at e1
    simpa using e1
theorem ret_form {s : Int} (hs : U32 s) : bits .or .u32 (bits .andNot .u32 (bits .or .u32 (bits .andNot .u32 (bits .or .u32 (bits .andNot .u32 s 8) (bitsV s 7 1 * 8 % 4294967296)) 128) 128) 6144) 0 = retS s := by
  have h3 := bit_two hs 7 (by decide)
  rw [show ((7 : Nat) : Int) = 7 from rfl] at h3
  unfold retS
  generalize bitsV s 7 1 = y at *
  rw [bvx hs]
  generalize BitVec.ofNat 32 s.toNat = X
  have e : ∀ p : Bool, _ := fun p => congrArg (fun v : BitVec 32 => (v.toNat : Int)) (bv_ret X p)
  rcases h3 with rfl | rfl
  · have e1 := e false
    simp only [Bool.false_eq_true, if_false, ← bvo, ← bvn, c8, c128, c0, c6144, c6152] at e1
    simpa using e1
  · have e1 := e true
    simp only [if_true, ← bvo, ← bvn, c8, c128, c0, c6144, c6152] at e1
    simpa using e1
theorem stat_form {x : Int} (hx : U32 x) (h : bitsV x 11 2 = 3) : bits .or .u32 (bits .andNot .u32 (bits .and .u32 x 136) 6144) 6144 = statV x := by
  unfold statV
  rw [if_pos h]
  clear h
  rw [bvx hx]
  generalize BitVec.ofNat 32 x.toNat = X
  have e1 := congrArg (fun v : BitVec 32 => (v.toNat : Int)) (bv_stat X)
  simp only [← bvo, ← bvn] at e1
  simp only [← bva, c136, c6144] at e1
  exact e1

theorem below_draws {w w' : World} (h : ∃ m, w' = w.drewN m) : Below w.heap.size w w' := by
  obtain ⟨m, rfl⟩ := h
  exact ⟨rfl, rfl, rfl, Nat.le_refl _, fun _ _ => rfl⟩

theorem nheldByStatus (x : Int) (hx : U32 x) (w : World) : Calls Try.prog 27 #[.int .u32 x] w fun e w' => e = .returned (.int .u32 (statV x)) ∧ Below w.heap.size w w' := by
  have C1 : Hid _ := mask_3_1
  have C2 : Hid _ := mask_7_1
  have C3 : Hid _ := nbits x 11 2 hx (by decide) (by decide) (by decide) (by decide)
  have C4 : Hid _ := put_11_2
  have HS : Hid _ := fun h => stat_form hx h
  have HN : Hid (¬ bitsV x 11 2 = 3 → statV x = bits .and .u32 x 136) := fun h => by unfold statV; rw [if_neg h]
  clear hx
  generalize hy : bitsV x 11 2 = y at *
  have H8 : bits .or .u32 8 128 = 136 := by decide +kernel
  by_cases h : y = 3
  · have e := HS.out h
    have hb : (y == 3) = true := by simpa using h
    clear HS HN hy h
    go_enter Try.func27, Try.ntmps27
    go_wp2_with fail
    refine (C1.out _).mono ?_
    rintro e1 w1 ⟨rfl, rfl⟩
    go_wp2_with fail
    refine (C2.out _).mono ?_
    rintro e1 w1 ⟨rfl, rfl⟩
    go_wp2_with fail
    refine (C3.out _).mono ?_
    rintro e1 w1 ⟨rfl, rfl⟩
    go_wp2_with fail
    refine (C4.out _ _ _).mono ?_
    rintro e1 w1 ⟨rfl, hw⟩
    have hb1 := below_draws hw
    go_wp2
    go_ret
    exact ⟨rfl, hb1⟩
  · have e := HN.out h
    have hb : (y == 3) = false := by simpa using h
    clear HS HN hy h
    go_enter Try.func27, Try.ntmps27
    go_wp2_with fail
    refine (C1.out _).mono ?_
    rintro e1 w1 ⟨rfl, rfl⟩
    go_wp2_with fail
    refine (C2.out _).mono ?_
    rintro e1 w1 ⟨rfl, rfl⟩
    go_wp2_with fail
    refine (C3.out _).mono ?_
    rintro e1 w1 ⟨rfl, rfl⟩
    go_wp2
    go_ret
    exact ⟨ret_u32 e.symm, Below.refl _ _⟩

theorem three_form {x : Int} (h : U32 x) : bits .andNot .u32 x 3 = x / 4 * 4 := by
  obtain ⟨X, rfl⟩ := Int.eq_ofNat_of_zero_le h.1
  have h1 : X < 4294967296 := by have := h.2; omega
  have := u32_andNot_nat X 3 h1 (by decide)
  rw [show ((3 : Nat) : Int) = 3 by rfl, show (4294967295 - 3 : Nat) = 4294967292 by rfl, nat_hi32_2] at this
  rw [this]
  omega
theorem nheld (n x : Int) (hx : U32 x) (w : World) : Calls Try.prog 21 #[.int .i64 n, .int .u32 x] w fun e w' => e = .returned (.int .u32 (keepV n x)) ∧ Below w.heap.size w w' := by
  have C1 : Hid _ := mask_7_1
  have C2 : Hid _ := mask_0_2
  have C3 : Hid _ := nheldByStatus x hx
  have H3 : Hid _ := three_form hx
  clear hx
  by_cases h1 : n = 768
  · subst h1
    rw [show keepV 768 x = statV x from rfl]
    generalize statV x = y at *
    go_enter Try.func21, Try.ntmps21
    go_wp2_with fail
    refine (C3.out _).mono ?_
    rintro e1 w1 ⟨rfl, hb⟩
    go_wp2
    go_ret
    exact ⟨rfl, hb⟩
  by_cases h2 : n = 772
  · subst h2
    rw [show keepV 772 x = bits .and .u32 x 128 from rfl]
    go_enter Try.func21, Try.ntmps21
    go_wp2_with fail
    refine (C1.out _).mono ?_
    rintro e1 w1 ⟨rfl, rfl⟩
    go_wp2
    go_ret
    exact ⟨rfl, Below.refl _ _⟩
  by_cases h3 : n = 773
  · subst h3
    rw [show keepV 773 x = x / 4 * 4 from rfl, ← H3.out]
    go_enter Try.func21, Try.ntmps21
    go_wp2_with fail
    refine (C2.out _).mono ?_
    rintro e1 w1 ⟨rfl, rfl⟩
    go_wp2
    go_ret
    exact ⟨rfl, Below.refl _ _⟩
  by_cases h4 : n = 833
  · subst h4
    rw [show keepV 833 x = x / 4 * 4 from rfl, ← H3.out]
    go_enter Try.func21, Try.ntmps21
    go_wp2_with fail
    refine (C2.out _).mono ?_
    rintro e1 w1 ⟨rfl, rfl⟩
    go_wp2
    go_ret
    exact ⟨rfl, Below.refl _ _⟩
  have e : keepV n x = x := by unfold keepV; rw [if_neg h1, if_neg h2, if_neg (by omega)]
  rw [e]
  go_enter Try.func21, Try.ntmps21
  go_wp2
  go_ret
  exact ⟨rfl, Below.refl _ _⟩
end Go.Proofs.Ytmmaoncgfmfbjaa
