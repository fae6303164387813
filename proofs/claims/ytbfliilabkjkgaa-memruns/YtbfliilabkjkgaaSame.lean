/-
  Two lists of words that are one: contract of the function that the statements bear.
-/
import Derived.Test.YtbfliilabkjkgaaMemr
namespace Go.Proofs.Ytbfliilabkjkgaa
open Go.RowKit

set_option maxHeartbeats 1000000 in
theorem rSame (a b n ca cb : Nat) (l : List Int) (hn : n ≤ 1000000000) (w : World)
    (ha : ∀ i, i < n → w.cell? ⟨a, i, none⟩ = some (.int .u32 (wordAt l i))) (hb : ∀ i, i < n → w.cell? ⟨b, i, none⟩ = some (.int .u32 (wordAt l i))) (sa : a < w.heap.size) (sb : b < w.heap.size) :
    Calls Try.prog 15 #[.slice (some ⟨a, 0, none⟩) n ca, .slice (some ⟨b, 0, none⟩) n cb] w fun e w' => e = .returned (.bool true) ∧ Below w.heap.size w w' := by
  go_enter Try.func15, Try.ntmps15
  go_wp2_with fail
  go_loopw [5] (fun i wr => ∃ k : Nat, k ≤ n ∧ i = .int .i64 k ∧ Hid (Below w.heap.size w wr)) (fun i _ => n - (intOf i).toNat)
  case atStart => exact ⟨0, Nat.zero_le _, rfl, Below.refl _ _⟩
  case round =>
    obtain ⟨k, hk, rfl, hbr⟩ := hrel
    by_cases hlt : k < n
    · have c0 := ha k hlt
      have c1 := hb k hlt
      have d0 : wr.cell? ⟨a, k, none⟩ = some (.int .u32 (wordAt l k)) := by rw [hbr.out.cell (p := ⟨a, k, none⟩) sa]; exact c0
      have d1 : wr.cell? ⟨b, k, none⟩ = some (.int .u32 (wordAt l k)) := by rw [hbr.out.cell (p := ⟨b, k, none⟩) sb]; exact c1
      clear c0 c1
      generalize wordAt l k = x at *
      go_wp2_with fail
      go_region
      go_wp2_with fail
      exact ⟨⟨k + 1, hlt, by go_num, hbr.out.drew⟩, by simp [intOf]; omega⟩
    · have hkn : k = n := by omega
      subst hkn
      go_wp2
      go_ret
      exact ⟨rfl, hbr.out⟩
end Go.Proofs.Ytbfliilabkjkgaa
