/-
  What Sound makes, as an image; footmanlaw9.awake.
-/
import Derived.Test.YtfjppgfnjjmkpaaImn
namespace Go.Proofs.Ytfjppgfnjjmkpaa
open Go.RowKit

theorem prow_at : ∀ (xs : List Pt) (i : Nat) (p : Pt) (f : Nat) (v : Value), xs[i]? = some p → p.cells.toList[f]? = some v → (prow xs)[i * 11 + f]? = some v
  | [], _, _, _, _, h, _ => by cases h
  | a :: l, 0, p, f, v, h, hv => by
    cases h
    have hf : f < 11 := (List.getElem?_eq_some_iff.1 hv).1
    show (a.cells.toList ++ prow l)[0 * 11 + f]? = some v
    rw [Nat.zero_mul, Nat.zero_add, List.getElem?_append_left (by exact hf)]
    exact hv
  | a :: l, i + 1, p, f, v, h, hv => by
    have hl : a.cells.toList.length = 11 := rfl
    show (a.cells.toList ++ prow l)[(i + 1) * 11 + f]? = some v
    rw [List.getElem?_append_right (by rw [hl]; omega), hl, show (i + 1) * 11 + f - 11 = i * 11 + f by omega]
    exact prow_at l i p f v h hv
def sndIm (s : Nat) (pa : Option Addr) (pc : Nat) (ps : List Pt) : Im := ⟨some ⟨s + 1, 0, none⟩, 200, 200, ⟨0, 40, false, false⟩, ⟨40, 200, false, false⟩, pa, pc, ps⟩
theorem sndIm_cells {s n : Nat} {pa : Option Addr} {pc : Nat} {ps : List Pt} (h : ps.length = n) : (sndIm s pa pc ps).cells = sndI s (.slice pa n pc) := by
  subst h
  rfl
theorem snd_pt {V : World} {j kb sb : Nat} (h1 : V.heap[kb]? = some (.cells (sndKs j) 25)) (h2 : V.heap[sb]? = some (.cells (sndSs j) 49)) : PtAt V (sndP j kb sb) := by
  refine ⟨⟨kb, 0, ⟨fun _ => rfl, fun _ => (Array.getElem?_eq_some_iff.1 h1).1, fun i hi f v hv => ?_⟩⟩, ⟨sb, 0, ⟨fun _ => ⟨rfl, (Array.getElem?_eq_some_iff.1 h2).1⟩, fun i p hp f v hv => ?_⟩⟩, rfl, rfl⟩
  · have hi0 : i = 0 := by
      have : i < 1 := hi
      omega
    subst hi0
    rw [show 0 + 0 * 4 + f = f by omega]
    refine (cells_of h1).1 f v ?_
    rw [← Array.getElem?_toList]
    exact hv
  · have hi2 : i < 2 := (List.getElem?_eq_some_iff.1 hp).1
    have hf : f < 2 := (List.getElem?_eq_some_iff.1 hv).1
    refine (cells_of h2).1 (0 + i * 2 + f) v ?_
    have : i = 0 ∨ i = 1 := by omega
    rcases this with rfl | rfl
    · cases hp
      have : f = 0 ∨ f = 1 := by omega
      rcases this with rfl | rfl <;> exact hv
    · cases hp
      have : f = 0 ∨ f = 1 := by omega
      rcases this with rfl | rfl <;> exact hv
theorem snd_parts {w V : World} {v : Value} {ps : List Pt} {n : Nat} (h : SndFin w V v ps n) : ∃ b pa pc, v = .slice pa n pc ∧ PartsAt V b 0 pa ps := by
  have hin : ∀ p ∈ ps, PtAt V p := fun p hp => by
    obtain ⟨j, hj⟩ := List.mem_iff_getElem?.1 hp
    obtain ⟨kb, sb, rfl, e2, e3, _⟩ := h.pts j p hj
    exact snd_pt e2 e3
  have h' := h.own
  obtain ⟨_, ⟨e, hn⟩ | ⟨g, cp, cur, e, _, hg, _⟩⟩ := h.own
  · exact ⟨0, none, 0, by rw [e, hn], ⟨fun h0 => (by have := h.len; omega), fun i p hp => (by have := (List.getElem?_eq_some_iff.1 hp).1; have := h.len; omega), hin⟩⟩
  · subst e
    refine ⟨g, some ⟨g, 0, none⟩, cp, rfl, ⟨fun _ => ⟨rfl, (Array.getElem?_eq_some_iff.1 hg).1⟩, fun i p hp j u hu => ?_, hin⟩⟩
    have := h'.cells (g := g) rfl (i * 11 + j) u (prow_at ps i p j u hp hu)
    rw [Addr.add_lit] at this
    rw [show 0 + i * 11 + j = 0 + (i * 11 + j) by omega]
    exact this
theorem u32_small {x : Int} (h0 : 0 ≤ x) (h1 : x ≤ 100000) : U32 x := ⟨h0, by omega⟩
theorem sndP_ok (j kb sb : Nat) (hj : j < 9) : PtOk (sndP j kb sb) := by
  have hnm : Nm (sndN j) := by
    unfold Nm
    match j, hj with
    | 0, _ => decide
    | 1, _ => decide
    | 2, _ => decide
    | 3, _ => decide
    | 4, _ => decide
    | 5, _ => decide
    | 6, _ => decide
    | 7, _ => decide
    | 8, _ => decide
  refine ⟨hnm, ⟨u32_small (by show 0 ≤ 200 + 60 * (j : Int); omega) (by show 200 + 60 * (j : Int) ≤ 100000; omega), u32_small (by show 0 ≤ 220 + 60 * (j : Int); omega) (by show 220 + 60 * (j : Int) ≤ 100000; omega)⟩, ⟨u32_small (by show 0 ≤ 220 + 60 * (j : Int); omega) (by show 220 + 60 * (j : Int) ≤ 100000; omega), u32_small (by show 0 ≤ 260 + 60 * (j : Int); omega) (by show 260 + 60 * (j : Int) ≤ 100000; omega)⟩, fun r hr => ?_, fun s hs => ?_, by show 1 ≤ 1000; omega, by show 2 ≤ 1000; omega⟩
  · have : r = ⟨40 + 16 * (j : Int), 56 + 16 * (j : Int), false, false⟩ := by simpa [sndP] using hr
    subst this
    exact ⟨u32_small (by show 0 ≤ 40 + 16 * (j : Int); omega) (by show 40 + 16 * (j : Int) ≤ 100000; omega), u32_small (by show 0 ≤ 56 + 16 * (j : Int); omega) (by show 56 + 16 * (j : Int) ≤ 100000; omega)⟩
  · have : s = (⟨#[120]⟩, 220 + 60 * (j : Int)) ∨ s = (⟨#[121]⟩, 256 + 60 * (j : Int)) := by simpa [sndP] using hs
    rcases this with rfl | rfl
    · exact ⟨by show (⟨#[120]⟩ : ByteArray).size ≤ maxLen; decide, u32_small (by show 0 ≤ 220 + 60 * (j : Int); omega) (by show 220 + 60 * (j : Int) ≤ 100000; omega)⟩
    · exact ⟨by show (⟨#[121]⟩ : ByteArray).size ≤ maxLen; decide, u32_small (by show 0 ≤ 256 + 60 * (j : Int); omega) (by show 256 + 60 * (j : Int) ≤ 100000; omega)⟩
theorem snd_imok {s : Nat} {pa : Option Addr} {pc : Nat} {ps : List Pt} (h9 : ps.length ≤ 9) (h : ∀ p ∈ ps, PtOk p) : ImOk (sndIm s pa pc ps) :=
  ⟨by show 200 ≤ maxLen; unfold maxLen; omega, ⟨u32_small (by show (0 : Int) ≤ 0; omega) (by show (0 : Int) ≤ 100000; omega), u32_small (by show (0 : Int) ≤ 40; omega) (by show (40 : Int) ≤ 100000; omega)⟩, ⟨u32_small (by show (0 : Int) ≤ 40; omega) (by show (40 : Int) ≤ 100000; omega), u32_small (by show (0 : Int) ≤ 200; omega) (by show (200 : Int) ≤ 100000; omega)⟩, by show ps.length ≤ 1000; omega, h⟩
theorem snd_two {w V : World} {v : Value} {ps : List Pt} (h : SndFin w V v ps 2) : ∃ k0 s0 k1 s1, ps = [sndP 0 k0 s0, sndP 1 k1 s1] := by
  have hl := h.len
  match ps, hl, h with
  | [a, b], _, h =>
    obtain ⟨k0, s0, rfl, _⟩ := h.pts 0 a rfl
    obtain ⟨k1, s1, rfl, _⟩ := h.pts 1 b rfl
    exact ⟨k0, s0, k1, s1, rfl⟩
theorem check_two (s : Nat) (pa : Option Addr) (pc k0 s0 k1 s1 : Nat) : checkV (sndIm s pa pc [sndP 0 k0 s0, sndP 1 k1 s1]) = 0 := by kernel_rfl
def noIm : Im := ⟨none, 0, 0, ⟨0, 0, false, false⟩, ⟨0, 0, false, false⟩, none, 0, []⟩
theorem checkNone (w : World) : Calls Try.prog 11 #[.agg noIm.cells] w fun e w' => e = .returned (.int .i64 1) ∧ Below w.heap.size w w' :=
  iCheck (i := noIm) (b := 0) (off := 0) ⟨fun h => (by cases h), fun k p h => (by cases h), fun p h => by cases h⟩ ⟨Nat.zero_le _, ⟨u32_small (by show (0 : Int) ≤ 0; omega) (by show (0 : Int) ≤ 100000; omega), u32_small (by show (0 : Int) ≤ 0; omega) (by show (0 : Int) ≤ 100000; omega)⟩, ⟨u32_small (by show (0 : Int) ≤ 0; omega) (by show (0 : Int) ≤ 100000; omega), u32_small (by show (0 : Int) ≤ 0; omega) (by show (0 : Int) ≤ 100000; omega)⟩, Nat.zero_le _, fun p h => by cases h⟩ (Nat.zero_le _)
theorem checkSnd {w V : World} {v : Value} {ps : List Pt} (h : SndFin w V v ps 2) : Calls Try.prog 11 #[.agg (sndI w.heap.size v)] V fun e w' => e = .returned (.int .i64 0) ∧ Below V.heap.size V w' := by
  obtain ⟨b, pa, pc, rfl, hp⟩ := snd_parts h
  obtain ⟨k0, s0, k1, s1, rfl⟩ := snd_two h
  rw [← sndIm_cells (s := w.heap.size) (pa := pa) (pc := pc) h.len, ← check_two w.heap.size pa pc k0 s0 k1 s1]
  refine iCheck (i := sndIm w.heap.size pa pc [sndP 0 k0 s0, sndP 1 k1 s1]) hp (snd_imok (by show 2 ≤ 9; omega) (fun p hp => ?_)) (by show 2 ≤ 100; omega)
  rcases List.mem_cons.1 hp with rfl | hp
  · exact sndP_ok 0 _ _ (by omega)
  · have : p = sndP 1 k1 s1 := by simpa using hp
    subst this
    exact sndP_ok 1 _ _ (by omega)
set_option maxHeartbeats 1000000 in
theorem iawake (w : World) : Calls Try.prog 8 #[] w fun e w' => e = .returned (.bool true) ∧ Below w.heap.size w w' := by
  have C1 : Hid _ := checkNone
  have C2 : Hid _ := iSound 2 (by omega)
  go_enter Try.func8, Try.ntmps8
  go_wp2_with fail
  refine Calls.mono (C1.out _) ?_
  rintro e w1 ⟨rfl, b1⟩
  have B1 : Hid _ := b1
  clear b1
  go_wp2_with fail
  refine Calls.mono (C2.out _) ?_
  rintro e w2 ⟨v, ps, rfl, hf⟩
  have HF : Hid _ := hf
  clear hf
  go_wp2_with fail
  refine Calls.mono (checkSnd HF.out) ?_
  rintro e w3 ⟨rfl, b3⟩
  have B3 : Hid _ := below_step (below_step B1.out HF.out.low) b3
  clear b3
  go_wp2
  go_ret
  exact ⟨rfl, B3.out⟩
end Go.Proofs.Ytfjppgfnjjmkpaa
