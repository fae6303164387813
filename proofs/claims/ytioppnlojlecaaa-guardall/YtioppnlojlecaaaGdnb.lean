/-
  Package guard: whether bytes are allowed: the contract of the function.
-/
import Derived.Test.YtioppnlojlecaaaGdna
namespace Go.Proofs.Ytioppnlojlecaaa
open Go.RowKit

set_option maxRecDepth 100000 in
set_option maxHeartbeats 2000000 in
theorem gAllow {w : World} {sa : Option Addr} {b off : Nat} {l : List Rg} (hr : Regs w sa b off l) (hu : ∀ r ∈ l, RgU r) (n cap : Nat) (hn : n = l.length) (hm : n ≤ 1000000000) (p s h : Int) (hp : U32 p) (hs : U32 s) :
    Calls Try.prog 15 #[.slice sa n cap, .int .u32 p, .int .u32 s, .int .i64 h] w fun e w' => e = .returned (.bool (allowV l p s h)) ∧ Below w.heap.size w w' := by
  have HR : Hid _ := hr
  have HU : Hid _ := hu
  have HN : Hid (n = l.length) := hn
  clear hr hu hn
  rw [allowV_any]
  generalize hv : (l.any fun r => coverV r p s && permitV r h) = V
  have HV : Hid ((l.any fun r => coverV r p s && permitV r h) = V) := hv
  clear hv
  go_enter Try.func15, Try.ntmps15
  go_wp2_with fail
  go_loopw [10, 13] (fun _ i wr => ∃ k : Nat, k ≤ n ∧ i = .int .i64 k ∧ Hid ((∀ j, j < k → (coverV (rgAt l j) p s && permitV (rgAt l j) h) = false) ∧ Below w.heap.size w wr)) (fun _ i _ => n - (intOf i).toNat)
  case atStart => exact ⟨0, Nat.zero_le _, rfl, fun j hj => absurd hj (Nat.not_lt_zero _), Below.refl _ _⟩
  case round =>
    obtain ⟨k, hk, rfl, hi⟩ := hrel
    by_cases hlt : k < n
    · have hl : k < l.length := by rw [← HN.out]; exact hlt
      have esa := HR.out.sa (by omega)
      subst esa
      have hR := HR.out.below hi.out.2
      have q0 : wr.cell? ⟨b, off + k * 4, none⟩ = some (.int .u32 (rgAt l k).lo) := hR.cell k hl 0 _ rfl
      have q1 : wr.cell? ⟨b, off + k * 4 + 1, none⟩ = some (.int .u32 (rgAt l k).hi) := hR.cell k hl 1 _ rfl
      have q2 : wr.cell? ⟨b, off + k * 4 + 2, none⟩ = some (.bool (rgAt l k).x) := hR.cell k hl 2 _ rfl
      have q3 : wr.cell? ⟨b, off + k * 4 + 3, none⟩ = some (.bool (rgAt l k).w) := hR.cell k hl 3 _ rfl
      have C1 : Hid _ := gcovers (rgAt l k) (rgAt_u HU.out k) p s hp hs
      have C2 : Hid _ := gpermits (rgAt l k) h
      have HT : Hid ((coverV (rgAt l k) p s && permitV (rgAt l k) h) = true → V = true) := fun ht => by rw [← HV.out]; exact any_at (f := fun r => coverV r p s && permitV r h) hl ht
      have HF : Hid ((coverV (rgAt l k) p s && permitV (rgAt l k) h) = false → ∀ j, j < k + 1 → (coverV (rgAt l j) p s && permitV (rgAt l j) h) = false) := fun hf j hj => by
        by_cases hjk : j = k
        · rw [hjk]; exact hf
        · exact hi.out.1 j (by omega)
      have HB : Hid (Below w.heap.size w wr) := hi.out.2
      clear hR hi hl HR HU HN HV hp hs
      generalize rgAt l k = r at *
      generalize hc : coverV r p s = cv at *
      generalize hd : permitV r h = pv at *
      clear hc hd
      obtain ⟨lo, hi, x, y⟩ := r
      simp only at q0 q1 q2 q3
      unfold rval at C1 C2
      simp only at C1 C2
      go_wp2_with fail
      refine (C1.out _).mono ?_
      rintro e w1 ⟨rfl, b1⟩
      have k1 := kept_block b1
      obtain ⟨dc, df, ds⟩ := cells_of k1
      have d0 := dc 0 (.int .u32 lo) rfl
      have d1 := dc 1 (.int .u32 hi) rfl
      have d2 := dc 2 (.bool x) rfl
      have d3 := dc 3 (.bool y) rfl
      have HB1 : Hid (Below w.heap.size w w1) := below_step HB.out (below_first b1)
      clear dc df k1 b1 HB
      cases cv
      · go_wp2_with fail
        exact ⟨⟨k + 1, hlt, by go_num, HF.out rfl, HB1.out⟩, by simp [intOf]; omega⟩
      · go_wp2_with fail
        refine (C2.out _).mono ?_
        rintro e w2 ⟨rfl, b2⟩
        have HB2 : Hid (Below w.heap.size w w2) := below_step HB1.out b2
        clear b2 HB1
        cases pv
        · go_wp2_with fail
          exact ⟨⟨k + 1, hlt, by go_num, HF.out rfl, HB2.out⟩, by simp [intOf]; omega⟩
        · have ht := HT.out rfl
          subst ht
          go_wp2
          go_ret
          exact ⟨rfl, HB2.out⟩
    · have hkn : k = n := by omega
      subst hkn
      have e : V = false := by
        rw [← HV.out]
        exact any_none (f := fun r => coverV r p s && permitV r h) fun i h => hi.out.1 i (by rw [HN.out]; exact h)
      subst e
      go_wp2
      go_ret
      exact ⟨rfl, hi.out.2⟩
end Go.Proofs.Ytioppnlojlecaaa
