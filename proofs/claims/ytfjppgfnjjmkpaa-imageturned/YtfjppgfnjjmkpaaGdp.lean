/-
  The words of regions, by the document: contract of the function that the statements bear.
-/
import Derived.Test.YtfjppgfnjjmkpaaGdw
namespace Go.Proofs.Ytfjppgfnjjmkpaa
open Go.RowKit

/-- Sixteen words and an error. -/
def row17 (f : Nat → Int) (e : Int) : Array Value := (row16 f).push (.int .i64 e)
theorem row17_size (f : Nat → Int) (e : Int) : (row17 f e).size = 17 := by simp [row17, row16]
theorem row17_one (f : Nat → Int) (e : Int) : (row17 f e).all (·.oneCell') = true := by simp [row17, row16, Value.oneCell']
theorem zero17 : (#[.int .u32 0, .int .u32 0, .int .u32 0, .int .u32 0, .int .u32 0, .int .u32 0, .int .u32 0, .int .u32 0, .int .u32 0, .int .u32 0, .int .u32 0, .int .u32 0, .int .u32 0, .int .u32 0, .int .u32 0, .int .u32 0, .int .i64 0] : Array Value) = row17 (fun _ => 0) 0 := rfl
theorem ret17 {f g : Nat → Int} {e e' : Int} (h : ∀ i, i < 16 → f i = g i) (he : e = e') : Ending.returned (.agg (row17 f e)) = .returned (.agg (row17 g e')) := by
  unfold row17
  rw [row16_ext h, he]

theorem or_one {h : Int} (hu : U32 h) (hm : h % 4 = 0) : bits .or .u32 h 1 = h + 1 := or_add 1 (by decide) hu (by decide) (by decide) (by omega)
theorem or_two {h : Int} (hu : U32 h) (hm : h % 4 = 0) : bits .or .u32 h 2 = h + 2 := or_add 2 (by decide) hu (by decide) (by decide) (by omega)
theorem or_both {h : Int} (hu : U32 h) (hm : h % 4 = 0) : bits .or .u32 (h + 1) 2 = h + 3 := by
  obtain ⟨H, rfl⟩ := Int.eq_ofNat_of_zero_le hu.1
  have h1 : H < 4294967296 := by have := hu.2; omega
  have e : H = 2 ^ 2 * (H / 4) := by omega
  have e1 : H + 1 = H ||| 1 := by
    rw [e]; exact Nat.two_pow_add_eq_or_of_lt (by decide) _
  have e3 : H + 3 = H ||| 3 := by
    rw [e]; exact Nat.two_pow_add_eq_or_of_lt (by decide) _
  have h2 : H + 1 < 4294967296 := by omega
  have := u32_or_nat (H + 1) 2 h2 (by decide)
  rw [show ((H : Nat) : Int) + 1 = ((H + 1 : Nat) : Int) by omega, show ((2 : Nat) : Int) = 2 by rfl] at *
  rw [this, e1, Nat.or_assoc, show (1 : Nat) ||| 2 = 3 by decide, ← e3]
  omega

/-- The j-th word of the first k regions. -/
def putP (l : List Rg) (k j : Nat) : Int := if j / 2 < k then (if j % 2 = 0 then (rgAt l (j / 2)).lo else hiV (rgAt l (j / 2))) else 0
theorem putP_next (l : List Rg) (k j : Nat) : putP l (k + 1) j = put1 (put1 (putP l k) (2 * k) (rgAt l k).lo) (2 * k + 1) (hiV (rgAt l k)) j := by
  unfold putP put1
  by_cases h1 : j = 2 * k + 1
  · subst h1
    rw [if_pos rfl, if_pos (by omega), if_neg (by omega), show (2 * k + 1) / 2 = k by omega]
  · rw [if_neg h1]
    by_cases h2 : j = 2 * k
    · subst h2
      rw [if_pos rfl, if_pos (by omega), if_pos (by omega), show 2 * k / 2 = k by omega]
    · rw [if_neg h2]
      show _ = if j / 2 < k then (if j % 2 = 0 then (rgAt l (j / 2)).lo else hiV (rgAt l (j / 2))) else 0
      by_cases h3 : j / 2 < k
      · rw [if_pos h3, if_pos (by omega)]
      · rw [if_neg h3, if_neg (by omega)]
theorem put1_twice (f : Nat → Int) (i : Nat) (x y : Int) : put1 (put1 f i x) i y = put1 f i y := by
  funext j
  unfold put1
  by_cases h : j = i
  · rw [if_pos h, if_pos h]
  · rw [if_neg h, if_neg h, if_neg h]

theorem putE_good {l : List Rg} (h8 : l.length ≤ 8) (h : ∀ i, i < l.length → badV (rgAt l i) = false) : gputE l = 0 := by
  unfold gputE
  rw [if_neg (by omega), if_neg (by rw [any_none h]; decide)]
theorem putE_bad {l : List Rg} (h8 : l.length ≤ 8) {i : Nat} (hi : i < l.length) (h : badV (rgAt l i) = true) : gputE l = 4 := by
  unfold gputE
  rw [if_neg (by omega), if_pos (any_at hi h)]

end Go.Proofs.Ytfjppgfnjjmkpaa
