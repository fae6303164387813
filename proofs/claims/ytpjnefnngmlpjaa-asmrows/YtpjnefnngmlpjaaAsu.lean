/-
  awake: two calls of Assemble.
-/
import Derived.Test.YtpjnefnngmlpjaaAst
namespace Go.Proofs.Ytpjnefnngmlpjaa
open Go.RowKit

theorem own_slice {w : World} {B : Nat} {t : TypeId} {sz n : Nat} {v : Value} {l : List Value} (h : w.ownsRow B t sz v n l) : ∃ sa cp, v = .slice sa n cp := by
  obtain ⟨_, ⟨e, hn⟩ | ⟨g, cp, cur, e, _⟩⟩ := h
  · exact ⟨none, 0, by rw [e, hn]⟩
  · exact ⟨_, _, e⟩
theorem own_at {w : World} {B : Nat} {t : TypeId} {v u : Value} (h : w.ownsRow B t 1 v 1 [u]) : ∃ g cp, v = .slice (some ⟨g, 0, none⟩) 1 cp ∧ w.cell? ⟨g, 0, none⟩ = some u := by
  have h' := h
  obtain ⟨_, ⟨_, hn⟩ | ⟨g, cp, cur, e, _⟩⟩ := h
  · cases hn
  · subst e
    exact ⟨g, cp, rfl, h'.cells (g := g) rfl 0 u rfl⟩
theorem errA (n : Int) (w : World) : Calls Try.prog 14 #[.int .i64 n] w fun e w' => e = .returned (.int .i64 n) ∧ w' = w := by
  go_enter Try.func14, Try.ntmps14
  go_wp2
  go_ret
  exact ⟨rfl, rfl⟩
theorem asmNone (w : World) : Calls Try.prog 13 #[.int .u32 0, .slice none 0 0] w fun e w' => ∃ (sa sb : Option Addr) (ca cb : Nat), e = .returned (.tuple #[.slice sa 0 ca, .slice sb 0 cb, .int .i64 0, .int .i64 0]) ∧ Below w.heap.size w w' := by
  refine (aAsmP (w := w) (b := 0) (off := 0) (sa := none) (cap := 0) (base := 0) (xs := []) ⟨fun h => (by cases h), fun i x hx => (by cases hx)⟩ (Nat.zero_le _) (fun x hx => by cases hx) rfl ⟨by decide, by decide⟩ ?_ (fun x hx => by cases hx) (fun _ => []) (fun k x hx => by cases hx) (fun k x hx => by cases hx) (fun j hj => ?_)).mono ?_
  · intro r at' er h
    rcases h.is with ⟨k, x, hx, _⟩ | ⟨_, h2, _⟩
    · cases hx
    · exact h2
  · have : j = 0 := by simpa using hj
    subst this
    show (0 : Int) ≤ 65536
    omega
  · rintro e w' ⟨wv, sv, B, rfl, _, h1, h2, _, h3⟩
    obtain ⟨sa, ca, rfl⟩ := own_slice h1
    obtain ⟨sb, cb, rfl⟩ := own_slice h2
    exact ⟨sa, sb, ca, cb, rfl, h3⟩
def fenceI : It := ⟨2, ⟨#[]⟩, ⟨#[102, 101, 110, 99, 101]⟩, 0, 0, 0, 0, 0, none, 0, 0⟩
theorem fence_l : fenceI.ins = ⟨[102, 101, 110, 99, 101], 0, 0, 0, 0⟩ := by
  unfold It.ins
  rw [ByteArray.toList_eq]
  rfl
theorem fence_may : mayV fenceI.ins = true := by rw [fence_l]; kernel_rfl
theorem fence_put : putN fenceI.ins = 15 := by rw [fence_l]; kernel_rfl
theorem asmOne (w : World) (b : Nat) (hb : w.heap[b]? = some (.cells fenceI.cells 34)) : Calls Try.prog 13 #[.int .u32 8, .slice (some ⟨b, 0, none⟩) 1 1] w fun e w' => ∃ (g : Nat) (sb : Option Addr) (ca cb : Nat), e = .returned (.tuple #[.slice (some ⟨g, 0, none⟩) 1 ca, .slice sb 0 cb, .int .i64 0, .int .i64 0]) ∧ w'.cell? ⟨g, 0, none⟩ = some (.int .u32 15) ∧ Below w.heap.size w w' := by
  have hm : ∀ x ∈ [fenceI], x = fenceI := fun x hx => by simpa using hx
  have ha : ∀ (k : Nat) (x : It), [fenceI][k]? = some x → k = 0 ∧ x = fenceI := fun k x hx => by
    rcases k with _ | k
    · cases hx
      exact ⟨rfl, rfl⟩
    · cases hx
  have s1 : sumV [fenceI] 1 = 1 := rfl
  refine (aAsmP (w := w) (b := b) (off := 0) (sa := some ⟨b, 0, none⟩) (cap := 1) (base := 8) (xs := [fenceI]) ⟨fun _ => ⟨rfl, (Array.getElem?_eq_some_iff.1 hb).1⟩, fun i x hx j v hv => ?_⟩ (by decide) (fun x hx => ?_) rfl ⟨by decide, by decide⟩ ?_ (fun x hx => ?_) (fun _ => []) (fun k x hx hk => ?_) (fun k x hx hk => ?_) (fun j hj => ?_)).mono ?_
  · obtain ⟨rfl, rfl⟩ := ha i x hx
    have := (cells_of hb).1 j v (by rw [← Array.getElem?_toList]; exact hv)
    simpa using this
  · rw [hm x hx]
    exact ⟨⟨by decide, by decide⟩, by unfold Nm; decide, by decide⟩
  · intro r at' er h
    rcases h.is with ⟨k, x, hx, _, h2, h3, _⟩ | ⟨_, h2, _⟩
    · obtain ⟨rfl, rfl⟩ := ha k x hx
      exfalso
      apply h3
      rw [h2]
      have hf := h.full
      have hr : r = 1 := by
        have h4 := hf.le
        have h5 := hf.many
        have h6 : [fenceI].length = 1 := rfl
        rcases Nat.lt_or_ge r 1 with h7 | h7
        · have : r = 0 := by omega
          subst this
          have := h5 (by decide)
          rw [s1] at this
          omega
        · omega
      subst hr
      have m1 : mayIt fenceI = true := by
        unfold mayIt
        rw [if_neg (by decide), if_pos (show fenceI.kind = 2 from rfl)]
        exact fence_may
      have m2 : nameOk [fenceI] 0 fenceI = true := rfl
      unfold wrongE
      rw [m1, m2]
      rfl
    · exact h2
  · rw [hm x hx]
    exact .inr (.inl rfl)
  · obtain ⟨rfl, rfl⟩ := ha k x hx
    cases hk
  · obtain ⟨rfl, rfl⟩ := ha k x hx
    cases hk
  · have : j = 0 ∨ j = 1 := by have : j ≤ 1 := hj; omega
    rcases this with rfl | rfl
    · show (0 : Int) ≤ 65536
      omega
    · rw [s1]
      omega
  · rintro e w' ⟨wv, sv, B, rfl, _, h1, h2, _, h3⟩
    have eW : outW [fenceI] (fun _ => []) [fenceI].length = [15] := by
      show [] ++ itemW fenceI [] = [15]
      have : itemW fenceI [] = [putN fenceI.ins] := rfl
      rw [this, fence_put]
      rfl
    rw [eW] at h1
    obtain ⟨g, ca, rfl, h4⟩ := own_at h1
    obtain ⟨sb, cb, rfl⟩ := own_slice h2
    exact ⟨g, sb, ca, cb, rfl, h4, h3⟩
set_option maxRecDepth 100000 in
set_option maxHeartbeats 2000000 in
theorem aawake (w : World) : Calls Try.prog 11 #[] w fun e w' => e = .returned (.bool true) ∧ Below w.heap.size w w' := by
  have C1 : Hid _ := asmNone
  have C2 : Hid _ := asmOne
  have CE : Hid _ := errA
  go_enter Try.func11, Try.ntmps11
  go_wp2_with fail
  refine Calls.mono (C1.out _) ?_
  rintro e w1 ⟨sa, sb, ca, cb, rfl, b1⟩
  have B1 : Hid _ := b1
  clear b1
  go_wp2_with fail
  have A2 : Below w1.heap.size w1 (w1.alloc (.cells fenceI.cells 34)) := (Below.refl _ _).alloc (Nat.le_refl _) _
  have B2 : Hid _ := below_step B1.out A2
  have N2 := alloc_at w1 (.cells fenceI.cells 34)
  refine Calls.mono (C2.out _ _ N2) ?_
  rintro e w3 ⟨g, sc, cc, cd, rfl, h4, b3⟩
  have B3 : Hid _ := below_step B2.out b3
  clear N2 A2 b3
  go_wp2_with (first | (go_at_call 14; refine (errA _ _).mono ?_; rintro e w' ⟨rfl, rfl⟩))
  go_ret
  exact ⟨rfl, B3.out⟩
end Go.Proofs.Ytpjnefnngmlpjaa
