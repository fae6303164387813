/-
  footmanlaw9.Heavy.
-/
import Derived.Test.YtfjppgfnjjmkpaaImop
namespace Go.Proofs.Ytfjppgfnjjmkpaa
open Go.RowKit

def heavyP (p : Pt) : Bool := decide (12 < p.kl) || decide (20 < p.sl)
def heavyV (i : Im) : Bool := decide (2000 < i.wl) || decide (12 < i.ps.length) || i.ps.any heavyP
set_option maxRecDepth 100000 in
set_option maxHeartbeats 2000000 in
theorem iHeavy {w : World} {i : Im} (h : ImIn w i) : Calls Try.prog 7 #[.agg i.cells] w fun e w' => e = .returned (.bool (heavyV i)) ∧ Below w.heap.size w w' := by
  obtain ⟨b, off, hps⟩ := h.ps
  have HP : Hid _ := hps
  have HI : Hid _ := h
  obtain ⟨RV, hRV⟩ : ∃ RV, RV = heavyV i := ⟨_, rfl⟩
  have HRV : Hid (RV = heavyV i) := hRV
  rw [← hRV]
  have A1 : Below w.heap.size w (w.alloc (.cells i.cells 28)) := (Below.refl _ _).alloc (Nat.le_refl _) _
  have L1 : Hid _ := A1
  have B1 := alloc_at w (.cells i.cells 28)
  have c0 : (w.alloc (.cells i.cells 28)).cell? ⟨w.heap.size, 0, none⟩ = some (.slice i.wa i.wl i.wc) := (cells_of B1).1 0 _ rfl
  have c9 : (w.alloc (.cells i.cells 28)).cell? ⟨w.heap.size, 9, none⟩ = some (.slice i.pa i.ps.length i.pc) := (cells_of B1).1 9 _ rfl
  have P1 : Hid _ := hps.below A1
  have m1 : (i.wl : Int) ≤ (maxLen : Nat) := by have := h.wl; omega
  have m2 : (i.ps.length : Int) ≤ (maxLen : Nat) := by have := h.few; omega
  unfold maxLen at m1 m2
  obtain ⟨n, hn⟩ : ∃ n, n = i.ps.length := ⟨_, rfl⟩
  have HLN : Hid (i.ps.length = n) := hn.symm
  rw [← hn] at c9 m2
  clear hps h hRV A1 B1 hn
  go_enter Try.func7, Try.ntmps7
  by_cases h1 : 2000 < i.wl
  · have hv : RV = true := by rw [HRV.out]; unfold heavyV; rw [decide_eq_true h1]; rfl
    have d1 : 2000 < (i.wl : Int) := by omega
    clear HRV
    subst hv
    go_wp2_with fail
    go_ret
    exact ⟨rfl, L1.out⟩
  have d1 : ¬ 2000 < (i.wl : Int) := by omega
  by_cases h2 : 12 < n
  · have hv : RV = true := by rw [HRV.out]; unfold heavyV; rw [HLN.out, decide_eq_true h2, Bool.or_true]; rfl
    have d2 : 12 < (n : Int) := by omega
    clear HRV
    subst hv
    go_wp2_with fail
    go_ret
    exact ⟨rfl, L1.out⟩
  have d2 : ¬ 12 < (n : Int) := by omega
  have HR2 : Hid (RV = i.ps.any heavyP) := by
    show RV = i.ps.any heavyP
    rw [HRV.out]
    unfold heavyV
    rw [HLN.out, decide_eq_false h1, decide_eq_false h2]
    rfl
  have n12 : n ≤ 12 := by omega
  clear HRV h1 h2
  go_wp2_with fail
  clear d1 d2 m1 m2 c0
  go_loopw [3] (fun x wr => ∃ (k : Nat), wr = w.alloc (.cells i.cells 28) ∧ k ≤ n ∧ x = .int .i64 k ∧ Hid (∀ (j : Nat) y, j < k → i.ps[j]? = some y → heavyP y = false)) (fun x _ => n - (intOf x).toNat)
  case atStart => exact ⟨0, rfl, Nat.zero_le _, rfl, fun j y hj => by omega⟩
  case round =>
    obtain ⟨k, rfl, hk, rfl, hr⟩ := hrel
    by_cases hlt : k < n
    · obtain ⟨p, hx⟩ : ∃ p, i.ps[k]? = some p := ⟨_, List.getElem?_eq_getElem (by rw [HLN.out]; exact hlt)⟩
      have HX : Hid _ := hx
      obtain ⟨ea, hb⟩ := P1.out.at' (P1.out.lt hx)
      rw [ea] at c9
      have k0 : (0 : Int) ≤ (k : Int) := by omega
      have k1 : (k : Int) < (n : Int) := by omega
      have e9 : (w.alloc (.cells i.cells 28)).cell? ⟨b, off + k * 11 + 9, none⟩ = some (.slice p.ka p.kl p.kc) := P1.out.row k p hx 9 _ rfl
      have e10 : (w.alloc (.cells i.cells 28)).cell? ⟨b, off + k * 11 + 10, none⟩ = some (.slice p.sa p.sl p.sc) := P1.out.row k p hx 10 _ rfl
      have PI := HI.out.all p (List.mem_of_getElem? hx)
      have m3 : (p.kl : Int) ≤ (maxLen : Nat) := by have := PI.kl; omega
      have m4 : (p.sl : Int) ≤ (maxLen : Nat) := by have := PI.sl; omega
      unfold maxLen at m3 m4
      clear hb hx ea PI
      generalize w.alloc (.cells i.cells 28) = V at *
      by_cases h3 : 12 < p.kl
      · have hv : RV = true := by
          rw [HR2.out, List.any_eq_true]
          exact ⟨p, List.mem_of_getElem? HX.out, by unfold heavyP; rw [decide_eq_true h3]; rfl⟩
        have d3 : 12 < (p.kl : Int) := by omega
        clear HR2
        subst hv
        go_wp2_with fail
        go_ret
        exact ⟨rfl, L1.out⟩
      have d3 : ¬ 12 < (p.kl : Int) := by omega
      by_cases h4 : 20 < p.sl
      · have hv : RV = true := by
          rw [HR2.out, List.any_eq_true]
          exact ⟨p, List.mem_of_getElem? HX.out, by unfold heavyP; rw [decide_eq_true h4, Bool.or_true]⟩
        have d4 : 20 < (p.sl : Int) := by omega
        clear HR2
        subst hv
        go_wp2_with fail
        go_ret
        exact ⟨rfl, L1.out⟩
      have d4 : ¬ 20 < (p.sl : Int) := by omega
      have HNO : Hid (heavyP p = false) := by
        show heavyP p = false
        unfold heavyP
        rw [decide_eq_false h3, decide_eq_false h4]
        rfl
      clear h3 h4
      go_wp2_with fail
      exact ⟨⟨k + 1, trivial, hlt, by go_num, fun j y hj hy => by
        by_cases hj2 : j < k
        · exact hr.out j y hj2 hy
        · have : j = k := by omega
          subst this
          rw [HX.out] at hy
          cases hy
          exact HNO.out⟩, by simp [intOf]; omega⟩
    have k1 : ¬ (k : Int) < (n : Int) := by omega
    have hv : RV = false := by
      rw [HR2.out, List.any_eq_false]
      intro y hy
      obtain ⟨j, hj⟩ := List.mem_iff_getElem?.1 hy
      rw [hr.out j y (by have := (List.getElem?_eq_some_iff.1 hj).1; rw [HLN.out] at this; omega) hj]
      decide
    clear HR2
    subst hv
    go_wp2_with fail
    go_ret
    exact ⟨rfl, L1.out⟩
/-- What is not heavy is an image for the contracts. -/
theorem light_ok {w : World} {i : Im} (h : ImIn w i) (hl : heavyV i = false) : ImOk i ∧ i.ps.length ≤ 100 ∧ ∀ p ∈ i.ps, PtAt w p ∧ PtOk p := by
  unfold heavyV at hl
  simp only [Bool.or_eq_false_iff, decide_eq_false_iff_not, List.any_eq_false] at hl
  obtain ⟨⟨h1, h2⟩, h3⟩ := hl
  have ok : ∀ p ∈ i.ps, PtOk p := fun p hp => by
    have q := h.all p hp
    have h4 := h3 p hp
    unfold heavyP at h4
    simp only [Bool.or_eq_true, decide_eq_true_eq, not_or] at h4
    exact ⟨q.nm, q.code, q.data, q.ks, q.ss, by rw [← q.at'.kl]; omega, by rw [← q.at'.sl]; omega⟩
  exact ⟨⟨h.wl, h.kern, h.keys, by omega, ok⟩, by omega, fun p hp => ⟨(h.all p hp).at', ok p hp⟩⟩
end Go.Proofs.Ytfjppgfnjjmkpaa
