/-
  Whether bytes are allowed, by the document: contract of the function that the statements bear.
-/
import Derived.Test.YtioppnlojlecaaaGdv
namespace Go.Proofs.Ytioppnlojlecaaa
open Go.RowKit

set_option maxRecDepth 100000 in
set_option maxHeartbeats 2000000 in
theorem rAllow {w : World} {sa : Option Addr} {b off : Nat} {l : List Rg} (hr : Regs w sa b off l) (hu : ∀ r ∈ l, RgU r) (n cap : Nat) (hn : n = l.length) (hm : n ≤ 1000000000) (p s h : Int) (hp : U32 p) (hs : U32 s) :
    Calls Try.prog 16 #[.slice sa n cap, .int .u32 p, .int .u32 s, .int .i64 h] w fun e w' => e = .returned (.bool (allowV l p s h)) ∧ Below w.heap.size w w' := by
  have HR : Hid _ := hr
  have HU : Hid _ := hu
  have HN : Hid (n = l.length) := hn
  obtain ⟨p0, p1⟩ := hp
  obtain ⟨s0, s1⟩ := hs
  clear hr hu hn
  by_cases c : s < 1 ∨ h < 0 ∨ 2 < h
  · have e : allowV l p s h = false := by unfold allowV; rw [if_pos c]
    rw [e]
    clear e
    by_cases c1 : s < 1
    · clear c
      go_enter Try.func16, Try.ntmps16
      go_wp2
      go_ret
      exact ⟨rfl, Below.refl _ _⟩
    · by_cases c2 : h < 0
      · clear c
        go_enter Try.func16, Try.ntmps16
        go_wp2
        go_ret
        exact ⟨rfl, Below.refl _ _⟩
      · have c3 : 2 < h := by omega
        clear c
        go_enter Try.func16, Try.ntmps16
        go_wp2
        go_ret
        exact ⟨rfl, Below.refl _ _⟩
  · have e : allowV l p s h = l.any fun r => allow1 r p s h := by unfold allowV; rw [if_neg c]
    rw [e]
    clear e
    have c1 : ¬ s < 1 := by omega
    have c2 : ¬ h < 0 := by omega
    have c3 : ¬ 2 < h := by omega
    clear c
    generalize hv : (l.any fun r => allow1 r p s h) = V
    have HV : Hid ((l.any fun r => allow1 r p s h) = V) := hv
    clear hv
    go_enter Try.func16, Try.ntmps16
    go_wp2_with fail
    go_loopw [9, 10] (fun i _ wr => ∃ k : Nat, k ≤ n ∧ i = .int .i64 k ∧ Hid ((∀ j, j < k → allow1 (rgAt l j) p s h = false) ∧ Below w.heap.size w wr)) (fun i _ _ => n - (intOf i).toNat)
    case atStart => exact ⟨0, Nat.zero_le _, rfl, fun j hj => absurd hj (Nat.not_lt_zero _), Below.refl _ _⟩
    case round =>
      obtain ⟨k, hk, rfl, hi⟩ := hrel
      by_cases hlt : k < n
      · have hl : k < l.length := by rw [← HN.out]; exact hlt
        have esa := HR.out.sa (by omega)
        subst esa
        have hR := HR.out.below hi.out.2
        have q0 : wr.cell? ⟨b, off + k * 4, none⟩ = some (.int .u32 (rgAt l k).lo) := hR.cell k hl 0 _ rfl
        have q1 : wr.cell? ⟨b, off + k * 4 + 1, none⟩ = some (.int .u32 (rgAt l k).hi) := hR.cell k hl 1 _ rfl
        have q2 : wr.cell? ⟨b, off + k * 4 + 2, none⟩ = some (.bool (rgAt l k).x) := hR.cell k hl 2 _ rfl
        have q3 : wr.cell? ⟨b, off + k * 4 + 3, none⟩ = some (.bool (rgAt l k).w) := hR.cell k hl 3 _ rfl
        obtain ⟨⟨l0, l1⟩, ⟨g0, g1⟩⟩ := rgAt_u HU.out k
        have HT : Hid (allow1 (rgAt l k) p s h = true → V = true) := fun ht => by rw [← HV.out]; exact any_at (f := fun r => allow1 r p s h) hl ht
        have HF : Hid (allow1 (rgAt l k) p s h = false → ∀ j, j < k + 1 → allow1 (rgAt l j) p s h = false) := fun hf j hj => by
          by_cases hjk : j = k
          · rw [hjk]; exact hf
          · exact hi.out.1 j (by omega)
        have HB : Hid (Below w.heap.size w wr) := hi.out.2
        clear hR hi hl HR HU HN HV
        generalize rgAt l k = r at *
        obtain ⟨lo, hi, x, y⟩ := r
        simp only at q0 q1 q2 q3 l0 l1 g0 g1
        unfold allow1 at HT HF
        simp only at HT HF
        by_cases d1 : lo ≤ p
        · by_cases d2 : p + s ≤ hi
          · by_cases h2 : h = 2
            · subst h2
              cases x
              · (go_wp2_with fail; exact ⟨⟨k + 1, hlt, by go_num, HF.out (by simp [d1, d2]), HB.out.alloc HB.out.size _⟩, by simp [intOf]; omega⟩)
              · (go_wp2; go_ret; exact ⟨by rw [HT.out (by simp [d1, d2])]; rfl, HB.out.alloc HB.out.size _⟩)
            · have h2t : (h != 2) = true := by simpa using h2
              by_cases h1 : h = 1
              · subst h1
                cases y
                · (go_wp2_with fail; exact ⟨⟨k + 1, hlt, by go_num, HF.out (by simp [d1, d2]), HB.out.alloc HB.out.size _⟩, by simp [intOf]; omega⟩)
                · (go_wp2; go_ret; exact ⟨by rw [HT.out (by simp [d1, d2])]; rfl, HB.out.alloc HB.out.size _⟩)
              · have h1t : (h != 1) = true := by simpa using h1
                (go_wp2; go_ret; exact ⟨by rw [HT.out (by simp [d1, d2, h1, h2])]; rfl, HB.out.alloc HB.out.size _⟩)
          · (go_wp2_with fail; exact ⟨⟨k + 1, hlt, by go_num, HF.out (by simp [d2]), HB.out.alloc HB.out.size _⟩, by simp [intOf]; omega⟩)
        · (go_wp2_with fail; exact ⟨⟨k + 1, hlt, by go_num, HF.out (by simp [d1]), HB.out.alloc HB.out.size _⟩, by simp [intOf]; omega⟩)
      · have hkn : k = n := by omega
        subst hkn
        have e : V = false := by
          rw [← HV.out]
          exact any_none fun i h => hi.out.1 i (by rw [HN.out]; exact h)
        subst e
        go_wp2
        go_ret
        exact ⟨rfl, hi.out.2⟩
end Go.Proofs.Ytioppnlojlecaaa
