/-
  footmanref10: skip.
-/
import Derived.Test.YtjgpojjbjgdfkaaDoorRxa
namespace Go.Proofs.YtjgpojjbjgdfkaaDoor
open Go.RowKit

theorem skip_blank {S : ByteArray} {k : Nat} (hlt : k < S.size) (h : bBlank (byteV S k) = true) : skipV S S.size (k + 1) = skipV S S.size k := by
  obtain ⟨n, hn⟩ : ∃ n, S.size = n + 1 := ⟨S.size - 1, by omega⟩
  have e1 : skipV S (n + 1) k = skipV S n (k + 1) := by
    rw [skipV, if_pos hlt, h]
    rfl
  have e2 := skip_more (S := S) n (k + 1) (by omega)
  exact ((congrArg (fun t => skipV S t (k + 1)) hn).trans e2).trans (e1.symm.trans (congrArg (fun t => skipV S t k) hn).symm)
theorem skip_note {S : ByteArray} {k : Nat} (hlt : k < S.size) (h : byteV S k = 35) : skipV S S.size (whileV S bInLine (S.size - k) k) = skipV S S.size k := by
  obtain ⟨n, hn⟩ : ∃ n, S.size = n + 1 := ⟨S.size - 1, by omega⟩
  have h35 : (byteV S k == 35) = true := by simpa using h
  have hg : bBlank (byteV S k) = false := by rw [h]; rfl
  have hge := skip_hash hlt h35
  have e1 : skipV S (n + 1) k = skipV S n (whileV S bInLine (S.size - k) k) := by
    rw [skipV, if_pos hlt, hg, h35]
    rfl
  have e2 := skip_more (S := S) n (whileV S bInLine (S.size - k) k) (by omega)
  exact ((congrArg (fun t => skipV S t (whileV S bInLine (S.size - k) k)) hn).trans e2).trans (e1.symm.trans (congrArg (fun t => skipV S t k) hn).symm)
theorem skip_stop {S : ByteArray} {k : Nat} (hlt : k < S.size) (h : bBlank (byteV S k) = false) (h2 : ¬ byteV S k = 35) : skipV S S.size k = k := by
  obtain ⟨n, hn⟩ : ∃ n, S.size = n + 1 := ⟨S.size - 1, by omega⟩
  have h35 : (byteV S k == 35) = false := by simpa using h2
  have e1 : skipV S (n + 1) k = k := by
    rw [skipV, if_pos hlt, h, h35]
    rfl
  exact (congrArg (fun t => skipV S t k) hn).trans e1
theorem skip_end {S : ByteArray} {k : Nat} (h : ¬ k < S.size) : ∀ n, skipV S n k = k
  | 0 => rfl
  | n + 1 => by rw [skipV, if_neg h]
set_option maxRecDepth 100000 in
set_option maxHeartbeats 4000000 in
theorem xSkip {S : ByteArray} (hS : S.size ≤ 281474976710656) (p : Nat) (hp : p ≤ S.size) (w : World) :
    Calls Tryd.prog 23 #[.string S, .int .i64 p] w fun e w' => e = .returned (.int .i64 (skipV S S.size p)) ∧ w' = w := by
  obtain ⟨R, hR⟩ : ∃ R, R = skipV S S.size p := ⟨_, rfl⟩
  have HR : Hid (skipV S S.size p = R) := hR.symm
  rw [← hR]
  have hm : (S.size : Int) ≤ 281474976710656 := by omega
  clear hR hS
  go_enter Tryd.func23, Tryd.ntmps23
  go_wp2_with fail
  go_loopw [1] (fun x wr => ∃ (k : Nat), wr = w ∧ k ≤ S.size ∧ x = .int .i64 k ∧ Hid (skipV S S.size k = R)) (fun x _ => S.size - (intOf x).toNat)
  case atStart => exact ⟨p, rfl, hp, rfl, HR⟩
  case round =>
    clear HR hp
    obtain ⟨k, rfl, hk, rfl, hr⟩ := hrel
    by_cases hlt : k < S.size
    · have k0 : (0 : Int) ≤ (k : Int) := by omega
      have k1 : (k : Int) < (S.size : Int) := by omega
      have hb := byteV_at hlt
      by_cases h35 : byteV S k = 35
      · rw [h35] at hb
        have HE : Hid (skipV S S.size (whileV S bInLine (S.size - k) k) = R) := (skip_note hlt h35).trans hr.out
        have hgo : k + 1 ≤ whileV S bInLine (S.size - k) k := skip_hash hlt (by simpa using h35)
        obtain ⟨q, hq⟩ : ∃ q, q = whileV S bInLine (S.size - k) k := ⟨_, rfl⟩
        have HQ : Hid (q = whileV S bInLine (S.size - k) k) := hq
        rw [← hq] at HE hgo
        clear hr h35 hq
        go_wp2_with fail
        go_loopw [1] (fun x w2 => ∃ (j : Nat), w2 = wr ∧ k ≤ j ∧ j ≤ S.size ∧ x = .int .i64 j ∧ Hid (whileV S bInLine (S.size - j) j = q)) (fun x _ => S.size - (intOf x).toNat)
        case atStart => exact ⟨k, rfl, Nat.le_refl _, hk, rfl, HQ.out.symm⟩
        case round =>
          clear hb k0 k1
          obtain ⟨j, rfl, hj0, hj, rfl, hq⟩ := hrel
          by_cases hjl : j < S.size
          · have j0 : (0 : Int) ≤ (j : Int) := by omega
            have j1 : (j : Int) < (S.size : Int) := by omega
            have hb := byteV_at hjl
            have hs : S.size - j = (S.size - (j + 1)) + 1 := by omega
            by_cases h10 : byteV S j = 10
            · have hv : q = j := by
                rw [← hq.out, hs]
                unfold whileV
                rw [h10]
                simp [bInLine]
              rw [h10] at hb
              clear hq h10 HQ
              subst hv
              go_wp2_with fail
              exact ⟨⟨q, trivial, hj, rfl, HE⟩, by simp [intOf]; omega⟩
            · have HE2 : Hid (whileV S bInLine (S.size - (j + 1)) (j + 1) = q) := by
                show _ = _
                rw [← hq.out, hs]
                conv => rhs; unfold whileV
                have : bInLine (byteV S j) = true := by
                  unfold bInLine
                  simpa using h10
                rw [this, decide_eq_true hjl]
                rfl
              clear hq HQ
              generalize byteV S j = c at *
              have n10 : (c == 10) = false := by simpa using h10
              have m10 : (c != 10) = true := by simpa using h10
              go_wp2_with fail
              exact ⟨⟨j + 1, trivial, by omega, by omega, by go_num, HE2⟩, by simp [intOf]; omega⟩
          · have hv : q = j := by
              rw [← hq.out]
              cases hn : S.size - j with
              | zero => rfl
              | succ n => omega
            have j1 : ¬ (j : Int) < (S.size : Int) := by omega
            clear hq HQ
            subst hv
            go_wp2_with fail
            exact ⟨⟨q, trivial, hj, rfl, HE⟩, by simp [intOf]; omega⟩
      · by_cases hbl : bBlank (byteV S k) = true
        · have HE : Hid (skipV S S.size (k + 1) = R) := (skip_blank hlt hbl).trans hr.out
          have hc : byteV S k = 9 ∨ byteV S k = 10 ∨ byteV S k = 13 ∨ byteV S k = 32 := by
            unfold bBlank at hbl
            simp only [Bool.or_eq_true, beq_iff_eq] at hbl
            omega
          clear hr hbl h35
          rcases hc with e | e | e | e <;>
          (rw [e] at hb
           clear e
           go_wp2_with fail
           exact ⟨⟨k + 1, trivial, by omega, by go_num, HE⟩, by simp [intOf]; omega⟩)
        · have hbl2 : bBlank (byteV S k) = false := by simpa using hbl
          have hv : R = k := by rw [← hr.out]; exact skip_stop hlt hbl2 h35
          unfold bBlank at hbl2
          simp only [Bool.or_eq_false_iff] at hbl2
          obtain ⟨⟨⟨e9, e10⟩, e13⟩, e32⟩ := hbl2
          have e35 : (byteV S k == 35) = false := by simpa using h35
          generalize byteV S k = c at *
          have m9 : (c != 9) = true := by simpa using e9
          have m10 : (c != 10) = true := by simpa using e10
          have m13 : (c != 13) = true := by simpa using e13
          have m32 : (c != 32) = true := by simpa using e32
          have m35 : (c != 35) = true := by simpa using e35
          clear hr hbl h35
          subst hv
          go_wp2_with fail
          go_ret
          exact ⟨rfl, rfl⟩
    · have hv : R = k := by rw [← hr.out]; exact skip_end hlt _
      have k1 : ¬ (k : Int) < (S.size : Int) := by omega
      clear hr
      subst hv
      go_wp2_with fail
      go_ret
      exact ⟨rfl, rfl⟩
end Go.Proofs.YtjgpojjbjgdfkaaDoor
