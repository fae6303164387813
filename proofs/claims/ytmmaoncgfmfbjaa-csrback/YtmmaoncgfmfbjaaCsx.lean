/-
  What registers say and what is written, by the document, for every number: the functions that the statements bear, whole.
-/
import Derived.Test.YtmmaoncgfmfbjaaCsw
namespace Go.Proofs.Ytmmaoncgfmfbjaa
open Go.RowKit

set_option maxRecDepth 100000 in
set_option maxHeartbeats 4000000 in
theorem rRead_3072 (f : Nat → Int) (u : Bool) (now : Int) (due : Bool) (w : World) :
    Calls Try.prog 9 #[.agg (regs57 f u), .int .i64 3072, .int .i64 now, .bool due] w fun e w' => e = .returned (gotA (now % 4294967296) 0) ∧ Below w.heap.size w w' := by
  have hbox := box57 f u
  have HL : Hid _ := rlow now
  generalize now % 4294967296 = y at *
  go_enter Try.func9, Try.ntmps9
  go_wp2_with fail
  refine (HL.out _).mono ?_
  rintro e w1 ⟨rfl, hw1⟩
  have hA := alloc_at (w.alloc (.cells (regs57 f u) 27)) (.cells #[.int .u32 0, .int .i64 0] 34)
  rw [World.size_alloc] at hA
  have K := kept_on hA ((Below.refl _ _).alloc (Nat.le_refl _) (.cells #[.int .u32 y, .int .i64 0] 34))
  have B : Below w.heap.size w w1 := by rw [hw1]; exact box2.alloc (by simp; omega) _
  rw [← hw1] at K
  clear hw1 hA
  obtain ⟨cc, cf, cs⟩ := cells_of K
  have c0 := cc 0 _ rfl
  have c1 := cc 1 _ rfl
  have f0 := cf 0
  have f1 := cf 1
  clear cc cf K
  go_wp2
  exact bodyPost_ret (v := gotA y 0) (by simp [results, Try.results9, go_sem, gotA, c0, c1]) rfl ⟨rfl, (B.setCell (Nat.le_succ _) _).setCell (Nat.le_succ _) _⟩

theorem rRead (f : Nat → Int) (u : Bool) (n now : Int) (due : Bool) (w : World) :
    Calls Try.prog 9 #[.agg (regs57 f u), .int .i64 n, .int .i64 now, .bool due] w fun e w' => e = .returned (gotA (readN f n now due) (readE n)) ∧ Below w.heap.size w w' := by
  by_cases h1 : n = 836
  · subst h1; exact rRead_836 f u now due w
  · by_cases h2 : n = 3072
    · subst h2; exact rRead_3072 f u now due w
    · by_cases a1 : n = 768
      · subst a1; exact rRead_768 f u now due w
      by_cases a2 : n = 772
      · subst a2; exact rRead_772 f u now due w
      by_cases a3 : n = 773
      · subst a3; exact rRead_773 f u now due w
      by_cases a4 : n = 832
      · subst a4; exact rRead_832 f u now due w
      by_cases a5 : n = 833
      · subst a5; exact rRead_833 f u now due w
      by_cases a6 : n = 834
      · subst a6; exact rRead_834 f u now due w
      by_cases a7 : n = 835
      · subst a7; exact rRead_835 f u now due w
      by_cases a8 : 1984 ≤ n ∧ n < 2000
      · obtain ⟨k, hk⟩ := Int.eq_ofNat_of_zero_le (show 0 ≤ n - 1984 by omega)
        have en : n = 1984 + (k : Int) := by omega
        have hc : cellOf n = some (41 + k) := by
          unfold cellOf
          rw [if_neg a1, if_neg a2, if_neg a3, if_neg a4, if_neg a5, if_neg a6, if_neg a7, if_pos a8, hk]
          rfl
        have e1 : readN f n now due = f (41 + k) := by unfold readN; rw [if_neg h1, if_neg h2, hc]
        have e2 : readE n = 0 := by unfold readE; rw [if_pos (Or.inr (Or.inr (by rw [hc]; rfl)))]
        rw [e1, e2, en]
        exact rRead_guard f u k now due (by omega) w
      · have hc : cellOf n = none := by
          unfold cellOf
          rw [if_neg a1, if_neg a2, if_neg a3, if_neg a4, if_neg a5, if_neg a6, if_neg a7, if_neg a8]
        have e1 : readN f n now due = 0 := by unfold readN; rw [if_neg h1, if_neg h2, hc]
        have e2 : readE n = 2 := by unfold readE; rw [if_neg (by rw [hc]; simp [h1, h2])]
        rw [e1, e2]
        exact rRead_none f u n now due hc h1 h2 w

/-- What is kept of x in the register n. -/
def keepV (n x : Int) : Int := if n = 768 then statV x else if n = 772 then bits .and .u32 x 128 else if n = 773 ∨ n = 833 then x / 4 * 4 else x
def writeF (f : Nat → Int) (n x : Int) : Nat → Int := match cellOf n with
  | some i => set1 f i (keepV n x)
  | none => f
def writeE (n : Int) : Int := if n = 836 ∨ n = 3072 then 7 else if (cellOf n).isSome then 0 else 2
theorem rWrite (f : Nat → Int) (u : Bool) (n x : Int) (hx : U32 x) (w : World) :
    Calls Try.prog 11 #[.agg (regs57 f u), .int .i64 n, .int .u32 x] w fun e w' => e = .returned (.agg (row58 (writeF f n x) u (writeE n))) ∧ Below w.heap.size w w' := by
  by_cases h1 : n = 836
  · subst h1; exact rWrite_836 f u x w
  · by_cases h2 : n = 3072
    · subst h2; exact rWrite_3072 f u x w
    · by_cases a1 : n = 768
      · subst a1; exact rWrite_768 f u x hx w
      by_cases a2 : n = 772
      · subst a2; exact rWrite_772 f u x w
      by_cases a3 : n = 773
      · subst a3; exact rWrite_773 f u x hx w
      by_cases a4 : n = 832
      · subst a4; exact rWrite_832 f u x w
      by_cases a5 : n = 833
      · subst a5; exact rWrite_833 f u x hx w
      by_cases a6 : n = 834
      · subst a6; exact rWrite_834 f u x w
      by_cases a7 : n = 835
      · subst a7; exact rWrite_835 f u x w
      by_cases a8 : 1984 ≤ n ∧ n < 2000
      · obtain ⟨k, hk⟩ := Int.eq_ofNat_of_zero_le (show 0 ≤ n - 1984 by omega)
        have en : n = 1984 + (k : Int) := by omega
        have hc : cellOf n = some (41 + k) := by
          unfold cellOf
          rw [if_neg a1, if_neg a2, if_neg a3, if_neg a4, if_neg a5, if_neg a6, if_neg a7, if_pos a8, hk]
          rfl
        have e0 : keepV n x = x := by unfold keepV; rw [if_neg a1, if_neg a2, if_neg (by omega)]
        have e1 : writeF f n x = set1 f (41 + k) x := by unfold writeF; rw [hc, e0]
        have e2 : writeE n = 0 := by unfold writeE; rw [if_neg (by omega), hc]; rfl
        rw [e1, e2, en]
        exact rWrite_guard f u x k (by omega) w
      · have hc : cellOf n = none := by
          unfold cellOf
          rw [if_neg a1, if_neg a2, if_neg a3, if_neg a4, if_neg a5, if_neg a6, if_neg a7, if_neg a8]
        have e1 : writeF f n x = f := by unfold writeF; rw [hc]
        have e2 : writeE n = 2 := by unfold writeE; rw [if_neg (by omega), hc]; rfl
        rw [e1, e2]
        exact rWrite_none f u x n hc h1 h2 w
end Go.Proofs.Ytmmaoncgfmfbjaa
