/-
  Package lex: hex digits, letters and digits of names; while.
-/
import Derived.Test.YtjgpojjbjgdfkaaDoorLxa
namespace Go.Proofs.YtjgpojjbjgdfkaaDoor
open Go.RowKit

theorem lHex (c : Int) (w : World) : Calls Tryd.prog 39 #[.int .u8 c] w fun e w' => e = .returned (.bool (bHex c)) ∧ w' = w := by
  have C1 : Hid _ := lDigit c
  unfold bHex
  cases h : bDigit c
  · rw [h] at C1
    by_cases h1 : 97 ≤ c
    · have d1 : decide (97 ≤ c) = true := decide_eq_true h1
      go_enter Tryd.func39, Tryd.ntmps39
      go_wp2_with fail
      refine Calls.mono (C1.out _) ?_
      rintro e w1 ⟨rfl, rfl⟩
      go_wp2
      go_ret
      exact ⟨by first | rfl | (rw [d1]; rfl), rfl⟩
    · have d1 : decide (97 ≤ c) = false := decide_eq_false h1
      go_enter Tryd.func39, Tryd.ntmps39
      go_wp2_with fail
      refine Calls.mono (C1.out _) ?_
      rintro e w1 ⟨rfl, rfl⟩
      go_wp2
      go_ret
      exact ⟨by first | rfl | (rw [d1]; rfl), rfl⟩
  · rw [h] at C1
    rw [Bool.true_or]
    go_enter Tryd.func39, Tryd.ntmps39
    go_wp2_with fail
    refine Calls.mono (C1.out _) ?_
    rintro e w1 ⟨rfl, rfl⟩
    go_wp2
    go_ret
    exact ⟨rfl, rfl⟩
theorem lInName (c : Int) (w : World) : Calls Tryd.prog 41 #[.int .u8 c] w fun e w' => e = .returned (.bool (bInName c)) ∧ w' = w := by
  have C1 : Hid _ := lLetter c
  have C2 : Hid _ := lDigit c
  unfold bInName
  cases h : bLetter c
  · rw [h] at C1
    rw [Bool.false_or]
    go_enter Tryd.func41, Tryd.ntmps41
    go_wp2_with fail
    refine Calls.mono (C1.out _) ?_
    rintro e w1 ⟨rfl, rfl⟩
    go_wp2_with fail
    refine Calls.mono (C2.out _) ?_
    rintro e w1 ⟨rfl, rfl⟩
    go_wp2
    go_ret
    exact ⟨rfl, rfl⟩
  · rw [h] at C1
    rw [Bool.true_or]
    go_enter Tryd.func41, Tryd.ntmps41
    go_wp2_with fail
    refine Calls.mono (C1.out _) ?_
    rintro e w1 ⟨rfl, rfl⟩
    go_wp2
    go_ret
    exact ⟨rfl, rfl⟩
/-- A source's byte, as the walk spells it; 0 behind its end. -/
def byteV (S : ByteArray) (k : Nat) : Int := if h : k < S.size then ((S[k]'h).toNat : Int) else 0
theorem byteV_at {S : ByteArray} {k : Nat} (h : k < S.size) : ((S[k]'h).toNat : Int) = byteV S k := by
  unfold byteV
  rw [dif_pos h]
/-- The first place from p on whose byte is not so, or the end. -/
def whileV (S : ByteArray) (g : Int → Bool) : Nat → Nat → Nat
  | 0, p => p
  | n + 1, p => if p < S.size && g (byteV S p) then whileV S g n (p + 1) else p
/-- A reader in a world. -/
def RdAt (w : World) (rb : Nat) (S : ByteArray) (m : Option Nat) : Prop := w.heap[rb]? = some (.cells #[.string S, .map m] 48)
set_option maxRecDepth 100000 in
set_option maxHeartbeats 2000000 in
theorem lWhileL {w : World} {rb : Nat} {S : ByteArray} {m : Option Nat} (h : RdAt w rb S m) (hS : S.size ≤ maxLen) (p : Nat) (hp : p ≤ S.size) :
    Calls Tryd.prog 36 #[.pointer (some ⟨rb, 0, none⟩), .int .i64 p, .func (.func 37) #[] #[]] w fun e w' => e = .returned (.int .i64 (whileV S bInLine (S.size - p) p)) ∧ w' = w := by
  obtain ⟨R, hR⟩ : ∃ R, R = whileV S bInLine (S.size - p) p := ⟨_, rfl⟩
  have HR : Hid (R = whileV S bInLine (S.size - p) p) := hR
  rw [← hR]
  have c0 : w.cell? ⟨rb, 0, none⟩ = some (.string S) := (cells_of h).1 0 _ rfl
  have hm : (S.size : Int) ≤ (maxLen : Nat) := by omega
  unfold maxLen at hm
  clear h hS hR
  go_enter Tryd.func36, Tryd.ntmps36
  go_wp2_with fail
  go_loopw [1] (fun x wr => ∃ (k : Nat), wr = w ∧ k ≤ S.size ∧ x = .int .i64 k ∧ Hid (whileV S bInLine (S.size - k) k = R)) (fun x _ => S.size - (intOf x).toNat)
  case atStart => exact ⟨p, rfl, hp, rfl, HR.out.symm⟩
  case round =>
    clear HR hp
    obtain ⟨k, rfl, hk, rfl, hr⟩ := hrel
    by_cases hlt : k < S.size
    · have k0 : (0 : Int) ≤ (k : Int) := by omega
      have k1 : (k : Int) < (S.size : Int) := by omega
      have hb := byteV_at hlt
      have hs : S.size - k = (S.size - (k + 1)) + 1 := by omega
      cases hg : bInLine (byteV S k)
      · have hv : R = k := by
          rw [← hr.out, hs]
          unfold whileV
          rw [hg, Bool.and_false]
          rfl
        have CF : Hid _ := lInLine (byteV S k)
        rw [hg] at CF
        go_wp2_with fail
        refine Calls.mono (CF.out _) ?_
        rintro e w1 ⟨rfl, rfl⟩
        clear hr
        subst hv
        go_wp2_with fail
        go_ret
        exact ⟨rfl, rfl⟩
      · have CF : Hid _ := lInLine (byteV S k)
        rw [hg] at CF
        have HE : Hid (whileV S bInLine (S.size - (k + 1)) (k + 1) = R) := by
          show whileV S bInLine (S.size - (k + 1)) (k + 1) = R
          rw [← hr.out, hs]
          conv => rhs; unfold whileV
          rw [hg, decide_eq_true hlt]
          rfl
        go_wp2_with fail
        refine Calls.mono (CF.out _) ?_
        rintro e w1 ⟨rfl, rfl⟩
        go_wp2_with fail
        exact ⟨⟨k + 1, trivial, by omega, by go_num, HE⟩, by simp [intOf]; omega⟩
    · have hv : R = k := by
        rw [← hr.out]
        cases hn : S.size - k with
        | zero => rfl
        | succ n => omega
      have k1 : ¬ (k : Int) < (S.size : Int) := by omega
      clear hr
      subst hv
      go_wp2_with fail
      go_ret
      exact ⟨rfl, rfl⟩
set_option maxRecDepth 100000 in
set_option maxHeartbeats 2000000 in
theorem lWhileD {w : World} {rb : Nat} {S : ByteArray} {m : Option Nat} (h : RdAt w rb S m) (hS : S.size ≤ maxLen) (p : Nat) (hp : p ≤ S.size) :
    Calls Tryd.prog 36 #[.pointer (some ⟨rb, 0, none⟩), .int .i64 p, .func (.func 29) #[] #[]] w fun e w' => e = .returned (.int .i64 (whileV S bDigit (S.size - p) p)) ∧ w' = w := by
  obtain ⟨R, hR⟩ : ∃ R, R = whileV S bDigit (S.size - p) p := ⟨_, rfl⟩
  have HR : Hid (R = whileV S bDigit (S.size - p) p) := hR
  rw [← hR]
  have c0 : w.cell? ⟨rb, 0, none⟩ = some (.string S) := (cells_of h).1 0 _ rfl
  have hm : (S.size : Int) ≤ (maxLen : Nat) := by omega
  unfold maxLen at hm
  clear h hS hR
  go_enter Tryd.func36, Tryd.ntmps36
  go_wp2_with fail
  go_loopw [1] (fun x wr => ∃ (k : Nat), wr = w ∧ k ≤ S.size ∧ x = .int .i64 k ∧ Hid (whileV S bDigit (S.size - k) k = R)) (fun x _ => S.size - (intOf x).toNat)
  case atStart => exact ⟨p, rfl, hp, rfl, HR.out.symm⟩
  case round =>
    clear HR hp
    obtain ⟨k, rfl, hk, rfl, hr⟩ := hrel
    by_cases hlt : k < S.size
    · have k0 : (0 : Int) ≤ (k : Int) := by omega
      have k1 : (k : Int) < (S.size : Int) := by omega
      have hb := byteV_at hlt
      have hs : S.size - k = (S.size - (k + 1)) + 1 := by omega
      cases hg : bDigit (byteV S k)
      · have hv : R = k := by
          rw [← hr.out, hs]
          unfold whileV
          rw [hg, Bool.and_false]
          rfl
        have CF : Hid _ := lDigit (byteV S k)
        rw [hg] at CF
        go_wp2_with fail
        refine Calls.mono (CF.out _) ?_
        rintro e w1 ⟨rfl, rfl⟩
        clear hr
        subst hv
        go_wp2_with fail
        go_ret
        exact ⟨rfl, rfl⟩
      · have CF : Hid _ := lDigit (byteV S k)
        rw [hg] at CF
        have HE : Hid (whileV S bDigit (S.size - (k + 1)) (k + 1) = R) := by
          show whileV S bDigit (S.size - (k + 1)) (k + 1) = R
          rw [← hr.out, hs]
          conv => rhs; unfold whileV
          rw [hg, decide_eq_true hlt]
          rfl
        go_wp2_with fail
        refine Calls.mono (CF.out _) ?_
        rintro e w1 ⟨rfl, rfl⟩
        go_wp2_with fail
        exact ⟨⟨k + 1, trivial, by omega, by go_num, HE⟩, by simp [intOf]; omega⟩
    · have hv : R = k := by
        rw [← hr.out]
        cases hn : S.size - k with
        | zero => rfl
        | succ n => omega
      have k1 : ¬ (k : Int) < (S.size : Int) := by omega
      clear hr
      subst hv
      go_wp2_with fail
      go_ret
      exact ⟨rfl, rfl⟩
set_option maxRecDepth 100000 in
set_option maxHeartbeats 2000000 in
theorem lWhileX {w : World} {rb : Nat} {S : ByteArray} {m : Option Nat} (h : RdAt w rb S m) (hS : S.size ≤ maxLen) (p : Nat) (hp : p ≤ S.size) :
    Calls Tryd.prog 36 #[.pointer (some ⟨rb, 0, none⟩), .int .i64 p, .func (.func 39) #[] #[]] w fun e w' => e = .returned (.int .i64 (whileV S bHex (S.size - p) p)) ∧ w' = w := by
  obtain ⟨R, hR⟩ : ∃ R, R = whileV S bHex (S.size - p) p := ⟨_, rfl⟩
  have HR : Hid (R = whileV S bHex (S.size - p) p) := hR
  rw [← hR]
  have c0 : w.cell? ⟨rb, 0, none⟩ = some (.string S) := (cells_of h).1 0 _ rfl
  have hm : (S.size : Int) ≤ (maxLen : Nat) := by omega
  unfold maxLen at hm
  clear h hS hR
  go_enter Tryd.func36, Tryd.ntmps36
  go_wp2_with fail
  go_loopw [1] (fun x wr => ∃ (k : Nat), wr = w ∧ k ≤ S.size ∧ x = .int .i64 k ∧ Hid (whileV S bHex (S.size - k) k = R)) (fun x _ => S.size - (intOf x).toNat)
  case atStart => exact ⟨p, rfl, hp, rfl, HR.out.symm⟩
  case round =>
    clear HR hp
    obtain ⟨k, rfl, hk, rfl, hr⟩ := hrel
    by_cases hlt : k < S.size
    · have k0 : (0 : Int) ≤ (k : Int) := by omega
      have k1 : (k : Int) < (S.size : Int) := by omega
      have hb := byteV_at hlt
      have hs : S.size - k = (S.size - (k + 1)) + 1 := by omega
      cases hg : bHex (byteV S k)
      · have hv : R = k := by
          rw [← hr.out, hs]
          unfold whileV
          rw [hg, Bool.and_false]
          rfl
        have CF : Hid _ := lHex (byteV S k)
        rw [hg] at CF
        go_wp2_with fail
        refine Calls.mono (CF.out _) ?_
        rintro e w1 ⟨rfl, rfl⟩
        clear hr
        subst hv
        go_wp2_with fail
        go_ret
        exact ⟨rfl, rfl⟩
      · have CF : Hid _ := lHex (byteV S k)
        rw [hg] at CF
        have HE : Hid (whileV S bHex (S.size - (k + 1)) (k + 1) = R) := by
          show whileV S bHex (S.size - (k + 1)) (k + 1) = R
          rw [← hr.out, hs]
          conv => rhs; unfold whileV
          rw [hg, decide_eq_true hlt]
          rfl
        go_wp2_with fail
        refine Calls.mono (CF.out _) ?_
        rintro e w1 ⟨rfl, rfl⟩
        go_wp2_with fail
        exact ⟨⟨k + 1, trivial, by omega, by go_num, HE⟩, by simp [intOf]; omega⟩
    · have hv : R = k := by
        rw [← hr.out]
        cases hn : S.size - k with
        | zero => rfl
        | succ n => omega
      have k1 : ¬ (k : Int) < (S.size : Int) := by omega
      clear hr
      subst hv
      go_wp2_with fail
      go_ret
      exact ⟨rfl, rfl⟩
set_option maxRecDepth 100000 in
set_option maxHeartbeats 2000000 in
theorem lWhileN {w : World} {rb : Nat} {S : ByteArray} {m : Option Nat} (h : RdAt w rb S m) (hS : S.size ≤ maxLen) (p : Nat) (hp : p ≤ S.size) :
    Calls Tryd.prog 36 #[.pointer (some ⟨rb, 0, none⟩), .int .i64 p, .func (.func 41) #[] #[]] w fun e w' => e = .returned (.int .i64 (whileV S bInName (S.size - p) p)) ∧ w' = w := by
  obtain ⟨R, hR⟩ : ∃ R, R = whileV S bInName (S.size - p) p := ⟨_, rfl⟩
  have HR : Hid (R = whileV S bInName (S.size - p) p) := hR
  rw [← hR]
  have c0 : w.cell? ⟨rb, 0, none⟩ = some (.string S) := (cells_of h).1 0 _ rfl
  have hm : (S.size : Int) ≤ (maxLen : Nat) := by omega
  unfold maxLen at hm
  clear h hS hR
  go_enter Tryd.func36, Tryd.ntmps36
  go_wp2_with fail
  go_loopw [1] (fun x wr => ∃ (k : Nat), wr = w ∧ k ≤ S.size ∧ x = .int .i64 k ∧ Hid (whileV S bInName (S.size - k) k = R)) (fun x _ => S.size - (intOf x).toNat)
  case atStart => exact ⟨p, rfl, hp, rfl, HR.out.symm⟩
  case round =>
    clear HR hp
    obtain ⟨k, rfl, hk, rfl, hr⟩ := hrel
    by_cases hlt : k < S.size
    · have k0 : (0 : Int) ≤ (k : Int) := by omega
      have k1 : (k : Int) < (S.size : Int) := by omega
      have hb := byteV_at hlt
      have hs : S.size - k = (S.size - (k + 1)) + 1 := by omega
      cases hg : bInName (byteV S k)
      · have hv : R = k := by
          rw [← hr.out, hs]
          unfold whileV
          rw [hg, Bool.and_false]
          rfl
        have CF : Hid _ := lInName (byteV S k)
        rw [hg] at CF
        go_wp2_with fail
        refine Calls.mono (CF.out _) ?_
        rintro e w1 ⟨rfl, rfl⟩
        clear hr
        subst hv
        go_wp2_with fail
        go_ret
        exact ⟨rfl, rfl⟩
      · have CF : Hid _ := lInName (byteV S k)
        rw [hg] at CF
        have HE : Hid (whileV S bInName (S.size - (k + 1)) (k + 1) = R) := by
          show whileV S bInName (S.size - (k + 1)) (k + 1) = R
          rw [← hr.out, hs]
          conv => rhs; unfold whileV
          rw [hg, decide_eq_true hlt]
          rfl
        go_wp2_with fail
        refine Calls.mono (CF.out _) ?_
        rintro e w1 ⟨rfl, rfl⟩
        go_wp2_with fail
        exact ⟨⟨k + 1, trivial, by omega, by go_num, HE⟩, by simp [intOf]; omega⟩
    · have hv : R = k := by
        rw [← hr.out]
        cases hn : S.size - k with
        | zero => rfl
        | succ n => omega
      have k1 : ¬ (k : Int) < (S.size : Int) := by omega
      clear hr
      subst hv
      go_wp2_with fail
      go_ret
      exact ⟨rfl, rfl⟩
end Go.Proofs.YtjgpojjbjgdfkaaDoor
