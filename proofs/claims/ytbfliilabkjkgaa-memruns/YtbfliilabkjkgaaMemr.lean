/-
  Memory by the document: what is asked of a list of words, what is loaded, what is stored: contracts of the functions that the statements bear.
-/
import Derived.Test.YtbfliilabkjkgaaRefb
namespace Go.Proofs.Ytbfliilabkjkgaa
open Go.RowKit

def sizeV (k : Int) : Bool := decide (k = 1) || (decide (k = 2) || decide (k = 4))
/-- The error of what is asked, or 0: of n words, at, so many bytes. -/
def askV (n : Nat) (p k : Int) : Int := if sizeV k = false then 1 else if p % k ≠ 0 then 4 else if 4 * (n : Int) ≤ p then 2 else 0
def wordAt (l : List Int) (i : Nat) : Int := l.getD i 0
def loadV (l : List Int) (p k : Int) (s : Bool) : Int :=
  if s then sextV (bitsV (wordAt l (p / 4).toNat) (p % 4 * 8) (8 * k)) (8 * k) else bitsV (wordAt l (p / 4).toNat) (p % 4 * 8) (8 * k)
def maskV (p k : Int) : Int := bitsV 4294967295 0 (8 * k) * 2 ^ (p % 4 * 8).toNat % 4294967296
/-- The word in which so many bytes of x stand at p from now on. -/
def storeV (old p k x : Int) : Int := bits .or .u32 (bits .andNot .u32 old (maskV p k)) (bits .and .u32 (x * 2 ^ (p % 4 * 8).toNat % 4294967296) (maskV p k))

theorem sizeV_iff (k : Int) : sizeV k = true ↔ k = 1 ∨ k = 2 ∨ k = 4 := by unfold sizeV; simp

theorem rsize (k : Int) (w : World) :
    Calls Try.prog 25 #[.int .i64 k] w fun e w' => e = .returned (.bool (sizeV k)) ∧ w' = w := by
  by_cases h1 : k = 1
  · subst h1
    go_enter Try.func25, Try.ntmps25
    go_wp2
    go_ret
    exact ⟨rfl, rfl⟩
  · by_cases h2 : k = 2
    · subst h2
      go_enter Try.func25, Try.ntmps25
      go_wp2
      go_ret
      exact ⟨rfl, rfl⟩
    · by_cases h4 : k = 4
      · subst h4
        go_enter Try.func25, Try.ntmps25
        go_wp2
        go_ret
        exact ⟨rfl, rfl⟩
      · have e : sizeV k = false := by unfold sizeV; simp [h1, h2, h4]
        have b1 : (k == 1) = false := by simpa using h1
        have b2 : (k == 2) = false := by simpa using h2
        have b4 : (k == 4) = false := by simpa using h4
        rw [e]
        clear e
        go_enter Try.func25, Try.ntmps25
        go_wp2
        go_ret
        exact ⟨rfl, rfl⟩

theorem ret_i64 {x y : Int} (h : x = y) : Ending.returned (.int .i64 x) = .returned (.int .i64 y) := by rw [h]

set_option maxHeartbeats 2000000 in
theorem rasked (ad : Option Addr) (n cap : Nat) (p k : Int) (hn : n ≤ 1000000000) (hp : U32 p) (w : World) :
    Calls Try.prog 20 #[.slice ad n cap, .int .u32 p, .int .i64 k] w fun e w' => e = .returned (.int .i64 (askV n p k)) ∧ w' = w := by
  have CS : Hid _ := rsize k
  obtain ⟨p0, p1⟩ := hp
  cases hs : sizeV k with
  | false =>
    have e : askV n p k = 1 := by unfold askV; rw [if_pos hs]
    rw [e]
    rw [hs] at CS
    clear e hs
    go_enter Try.func20, Try.ntmps20
    go_wp2_with fail
    refine (CS.out _).mono ?_
    rintro e w' ⟨rfl, rfl⟩
    go_wp2
    go_ret
    exact ⟨rfl, rfl⟩
  | true =>
    have hk := (sizeV_iff k).1 hs
    rw [hs] at CS
    have e : askV n p k = if p % k ≠ 0 then 4 else if 4 * (n : Int) ≤ p then 2 else 0 := by unfold askV; rw [if_neg (by rw [hs]; decide)]
    rw [e]
    have HT : p.tmod k = p % k := by rw [Int.tmod_eq_emod_of_nonneg p0]
    have k0 : ¬ k = 0 := by omega
    by_cases hm : p % k = 0
    · have b1 : p.tmod k = 0 := by rw [HT]; exact hm
      have b2 : (p.tmod k != 0) = false := by simp [b1]
      by_cases hl : 4 * (n : Int) ≤ p
      · rw [if_neg (by omega), if_pos hl]
        clear e hs hk HT
        go_enter Try.func20, Try.ntmps20
        go_wp2_with fail
        refine (CS.out _).mono ?_
        rintro e w' ⟨rfl, rfl⟩
        go_wp2
        go_ret
        exact ⟨rfl, rfl⟩
      · rw [if_neg (by omega), if_neg hl]
        clear e hs hk HT
        go_enter Try.func20, Try.ntmps20
        go_wp2_with fail
        refine (CS.out _).mono ?_
        rintro e w' ⟨rfl, rfl⟩
        go_wp2
        go_ret
        exact ⟨rfl, rfl⟩
    · have b1 : ¬ p.tmod k = 0 := by rw [HT]; exact hm
      have b2 : (p.tmod k != 0) = true := by simpa using b1
      rw [if_pos hm]
      clear e hs hk HT
      go_enter Try.func20, Try.ntmps20
      go_wp2_with fail
      refine (CS.out _).mono ?_
      rintro e w' ⟨rfl, rfl⟩
      go_wp2
      go_ret
      exact ⟨rfl, rfl⟩
end Go.Proofs.Ytbfliilabkjkgaa
