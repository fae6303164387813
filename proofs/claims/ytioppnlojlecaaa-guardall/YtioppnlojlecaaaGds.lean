/-
  Two lists of regions that are one: contract of the function that the statements bear.
-/
import Derived.Test.YtioppnlojlecaaaGdv
namespace Go.Proofs.Ytioppnlojlecaaa
open Go.RowKit

set_option maxRecDepth 100000 in
set_option maxHeartbeats 2000000 in
theorem lsame {w : World} {sa sb : Option Addr} {a oa b ob : Nat} {l : List Rg} (ha : Regs w sa a oa l) (hb : Regs w sb b ob l) (n ca cb : Nat) (hn : n = l.length) (hm : n ≤ 1000000000) :
    Calls Try.prog 10 #[.slice sa n ca, .slice sb n cb] w fun e w' => e = .returned (.bool true) ∧ Below w.heap.size w w' := by
  have HA : Hid _ := ha
  have HB : Hid _ := hb
  have HN : Hid (n = l.length) := hn
  clear ha hb hn
  go_enter Try.func10, Try.ntmps10
  go_wp2_with fail
  go_loopw [5] (fun i wr => ∃ k : Nat, k ≤ n ∧ i = .int .i64 k ∧ Hid (Below w.heap.size w wr)) (fun i _ => n - (intOf i).toNat)
  case atStart => exact ⟨0, Nat.zero_le _, rfl, Below.refl _ _⟩
  case round =>
    obtain ⟨k, hk, rfl, hbr⟩ := hrel
    by_cases hlt : k < n
    · have hl : k < l.length := by rw [← HN.out]; exact hlt
      have ea := HA.out.sa (by omega)
      have eb := HB.out.sa (by omega)
      subst ea eb
      have hR := HA.out.below hbr.out
      have hS := HB.out.below hbr.out
      have q0 : wr.cell? ⟨a, oa + k * 4, none⟩ = some (.int .u32 (rgAt l k).lo) := hR.cell k hl 0 _ rfl
      have q1 : wr.cell? ⟨a, oa + k * 4 + 1, none⟩ = some (.int .u32 (rgAt l k).hi) := hR.cell k hl 1 _ rfl
      have q2 : wr.cell? ⟨a, oa + k * 4 + 2, none⟩ = some (.bool (rgAt l k).x) := hR.cell k hl 2 _ rfl
      have q3 : wr.cell? ⟨a, oa + k * 4 + 3, none⟩ = some (.bool (rgAt l k).w) := hR.cell k hl 3 _ rfl
      have r0 : wr.cell? ⟨b, ob + k * 4, none⟩ = some (.int .u32 (rgAt l k).lo) := hS.cell k hl 0 _ rfl
      have r1 : wr.cell? ⟨b, ob + k * 4 + 1, none⟩ = some (.int .u32 (rgAt l k).hi) := hS.cell k hl 1 _ rfl
      have r2 : wr.cell? ⟨b, ob + k * 4 + 2, none⟩ = some (.bool (rgAt l k).x) := hS.cell k hl 2 _ rfl
      have r3 : wr.cell? ⟨b, ob + k * 4 + 3, none⟩ = some (.bool (rgAt l k).w) := hS.cell k hl 3 _ rfl
      clear hR hS hl HA HB HN
      generalize rgAt l k = r at *
      obtain ⟨lo, hi, x, y⟩ := r
      simp only at q0 q1 q2 q3 r0 r1 r2 r3
      go_wp2_with fail
      go_region
      go_wp2_with fail
      exact ⟨⟨k + 1, hlt, by go_num, hbr.out.drew⟩, by simp [intOf]; omega⟩
    · have hkn : k = n := by omega
      subst hkn
      go_wp2
      go_ret
      exact ⟨rfl, hbr.out⟩
end Go.Proofs.Ytioppnlojlecaaa
