/-
  Package lex: skip.
-/
import Derived.Test.YtjgpojjbjgdfkaaDoorLxb
namespace Go.Proofs.YtjgpojjbjgdfkaaDoor
open Go.RowKit

theorem while_ge (S : ByteArray) (g : Int → Bool) : ∀ n p, p ≤ whileV S g n p
  | 0, p => Nat.le_refl p
  | n + 1, p => by
    unfold whileV
    split
    · have := while_ge S g n (p + 1)
      omega
    · exact Nat.le_refl p
theorem while_le {S : ByteArray} {g : Int → Bool} : ∀ n p, p ≤ S.size → whileV S g n p ≤ S.size
  | 0, p, h => h
  | n + 1, p, h => by
    unfold whileV
    split
    · rename_i hc
      simp only [Bool.and_eq_true, decide_eq_true_eq] at hc
      exact while_le n (p + 1) (by omega)
    · exact h
theorem while_on {S : ByteArray} {g : Int → Bool} {n p : Nat} (h : p < S.size) (hg : g (byteV S p) = true) : p + 1 ≤ whileV S g (n + 1) p := by
  unfold whileV
  rw [hg, decide_eq_true h]
  exact while_ge S g n (p + 1)
def skipV (S : ByteArray) : Nat → Nat → Nat
  | 0, p => p
  | n + 1, p => if p < S.size then (if bBlank (byteV S p) then skipV S n (p + 1) else if byteV S p == 35 then skipV S n (whileV S bInLine (S.size - p) p) else p) else p
theorem skip_hash {S : ByteArray} {p : Nat} (h : p < S.size) (h35 : (byteV S p == 35) = true) : p + 1 ≤ whileV S bInLine (S.size - p) p := by
  have e : byteV S p = 35 := by simpa using h35
  rw [show S.size - p = (S.size - p - 1) + 1 by omega]
  exact while_on h (by rw [e]; rfl)
theorem skip_more {S : ByteArray} : ∀ n p, S.size ≤ n + p → skipV S (n + 1) p = skipV S n p
  | 0, p, h => by
    unfold skipV
    rw [if_neg (by omega)]
  | n + 1, p, h => by
    rw [skipV]
    conv => rhs; rw [skipV]
    split
    · rename_i hlt
      split
      · exact skip_more n (p + 1) (by omega)
      · split
        · rename_i h35
          have := skip_hash hlt h35
          exact skip_more n _ (by omega)
        · rfl
    · rfl
theorem skip_le {S : ByteArray} : ∀ n p, p ≤ S.size → skipV S n p ≤ S.size
  | 0, p, h => h
  | n + 1, p, h => by
    unfold skipV
    split
    · rename_i hlt
      split
      · exact skip_le n (p + 1) (by omega)
      · split
        · exact skip_le n _ (while_le _ _ h)
        · exact h
    · exact h
set_option maxRecDepth 100000 in
set_option maxHeartbeats 2000000 in
theorem lSkip {w : World} {rb : Nat} {S : ByteArray} {m : Option Nat} (h : RdAt w rb S m) (hS : S.size ≤ maxLen) (p : Nat) (hp : p ≤ S.size) :
    Calls Tryd.prog 28 #[.pointer (some ⟨rb, 0, none⟩), .int .i64 p] w fun e w' => e = .returned (.int .i64 (skipV S S.size p)) ∧ w' = w := by
  obtain ⟨R, hR⟩ : ∃ R, R = skipV S S.size p := ⟨_, rfl⟩
  have HR : Hid (R = skipV S S.size p) := hR
  rw [← hR]
  have H0 : Hid _ := h
  have HS : Hid _ := hS
  have c0 : w.cell? ⟨rb, 0, none⟩ = some (.string S) := (cells_of h).1 0 _ rfl
  have hm : (S.size : Int) ≤ (maxLen : Nat) := by omega
  unfold maxLen at hm
  clear h hS hR
  go_enter Tryd.func28, Tryd.ntmps28
  go_wp2_with fail
  go_loopw [1] (fun x wr => ∃ (k : Nat), wr = w ∧ k ≤ S.size ∧ x = .int .i64 k ∧ Hid (skipV S S.size k = R)) (fun x _ => S.size - (intOf x).toNat)
  case atStart => exact ⟨p, rfl, hp, rfl, HR.out.symm⟩
  case round =>
    clear HR hp
    obtain ⟨k, rfl, hk, rfl, hr⟩ := hrel
    by_cases hlt : k < S.size
    · have k0 : (0 : Int) ≤ (k : Int) := by omega
      have k1 : (k : Int) < (S.size : Int) := by omega
      have hb := byteV_at hlt
      obtain ⟨n, hn⟩ : ∃ n, S.size = n + 1 := ⟨S.size - 1, by omega⟩
      have CB : Hid _ := lBlank (byteV S k)
      cases hg : bBlank (byteV S k)
      · rw [hg] at CB
        cases h35 : (byteV S k == 35)
        · have hv : R = k := by
            rw [← hr.out, hn]
            unfold skipV
            rw [if_pos hlt, hg, h35]
            rfl
          clear hn
          go_wp2_with fail
          refine Calls.mono (CB.out _) ?_
          rintro e w1 ⟨rfl, rfl⟩
          clear hr
          subst hv
          go_wp2_with fail
          go_ret
          exact ⟨rfl, rfl⟩
        · have HE : Hid (skipV S S.size (whileV S bInLine (S.size - k) k) = R) := by
            show skipV S S.size (whileV S bInLine (S.size - k) k) = R
            have hge := skip_hash hlt h35
            have e1 : skipV S (n + 1) k = skipV S n (whileV S bInLine (S.size - k) k) := by
              rw [skipV, if_pos hlt, hg, h35]
              rfl
            have e2 := skip_more (S := S) n (whileV S bInLine (S.size - k) k) (by omega)
            exact ((congrArg (fun t => skipV S t (whileV S bInLine (S.size - k) k)) hn).trans e2).trans (e1.symm.trans ((congrArg (fun t => skipV S t k) hn).symm.trans hr.out))
          have CW : Hid _ := lWhileL H0.out HS.out k hk
          have hq := skip_hash hlt h35
          have hq2 := while_le (g := bInLine) (S.size - k) k hk
          clear hn
          generalize whileV S bInLine (S.size - k) k = q at *
          go_wp2_with fail
          refine Calls.mono (CB.out _) ?_
          rintro e w1 ⟨rfl, rfl⟩
          go_wp2_with fail
          refine Calls.mono CW.out ?_
          rintro e w1 ⟨rfl, rfl⟩
          go_wp2_with fail
          exact ⟨⟨q, trivial, hq2, rfl, HE⟩, by simp [intOf]; omega⟩
      · rw [hg] at CB
        have HE : Hid (skipV S S.size (k + 1) = R) := by
          show skipV S S.size (k + 1) = R
          have e1 : skipV S (n + 1) k = skipV S n (k + 1) := by
            rw [skipV, if_pos hlt, hg]
            rfl
          have e2 := skip_more (S := S) n (k + 1) (by omega)
          exact ((congrArg (fun t => skipV S t (k + 1)) hn).trans e2).trans (e1.symm.trans ((congrArg (fun t => skipV S t k) hn).symm.trans hr.out))
        clear hn
        go_wp2_with fail
        refine Calls.mono (CB.out _) ?_
        rintro e w1 ⟨rfl, rfl⟩
        go_wp2_with fail
        exact ⟨⟨k + 1, trivial, by omega, by go_num, HE⟩, by simp [intOf]; omega⟩
    · have hv : R = k := by
        rw [← hr.out]
        cases S.size with
        | zero => rfl
        | succ n =>
          rw [skipV, if_neg ‹_›]
      have k1 : ¬ (k : Int) < (S.size : Int) := by omega
      clear hr
      subst hv
      go_wp2_with fail
      go_ret
      exact ⟨rfl, rfl⟩
end Go.Proofs.YtjgpojjbjgdfkaaDoor
