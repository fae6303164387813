/-
  New memory, and all its words; that package mem is what the statements need.
-/
import Derived.Test.YtbfliilabkjkgaaMemc
import Derived.Deep.OwnRows
namespace Go.Proofs.Ytbfliilabkjkgaa
open Go.RowKit

theorem makeB (n : Nat) (h : n ≤ 1000000) (w : World) : (Instr.makeSlice 48 (.int .i64 (n : Int)) (.int .i64 (n : Int))).run Try.prog w = .ok (.slice (some ⟨w.heap.size, 0, none⟩) n n) (w.alloc (.cells (madeCells #[.int .u8 0] n) 5)) :=
  run_make_row' (P := Try.prog) 48 5 (.int .u8 0) 1 Try.underlying48 (by kernel_rfl) rfl .i64 .i64 n (by omega) (by omega) w
theorem makeW (n : Nat) (h : n ≤ 1000000) (w : World) : (Instr.makeSlice 22 (.int .i64 (n : Int)) (.int .i64 (n : Int))).run Try.prog w = .ok (.slice (some ⟨w.heap.size, 0, none⟩) n n) (w.alloc (.cells (madeCells #[.int .u32 0] n) 30)) :=
  run_make_row' (P := Try.prog) 22 30 (.int .u32 0) 4 Try.underlying22 (by kernel_rfl) rfl .i64 .i64 n (by omega) (by omega) w

/-- The bytes of the first j words; the rest is 0. -/
def upto (l : List Int) (j t : Nat) : Int := if t < 4 * j then byteAt l t else 0
theorem upto_next (l : List Int) (j : Nat) : upd (upto l j) (4 * j) 4 (wordAt l j) = upto l (j + 1) := by
  funext t
  unfold upd upto byteAt
  by_cases h : 4 * j ≤ t ∧ t < 4 * j + 4
  · rw [if_pos h, if_pos (by omega), show t - 4 * j = t % 4 by omega, show t / 4 = j by omega]
  · rw [if_neg h]
    by_cases h2 : t < 4 * j
    · rw [if_pos h2, if_pos (by omega)]
    · rw [if_neg h2, if_neg (by omega)]
theorem made_at (v : Value) (n i : Nat) (h : i < n) : (madeCells #[v] n)[i]? = some v := by
  rw [← Array.getElem?_toList, toList_madeCells_one]
  simp [h]

set_option maxHeartbeats 1000000 in
theorem mnew (b o n cap : Nat) (l : List Int) (w : World) (hl : n = l.length) (n0 : 1 ≤ n) (n1 : n ≤ 65536) (hu : ∀ x ∈ l, U32 x) (hc : ∀ i, i < n → w.cell? ⟨b, o + i, none⟩ = some (.int .u32 (wordAt l i))) :
    Calls Try.prog 9 #[.slice (some ⟨b, o, none⟩) n cap] w fun e w' => e = .returned (.tuple #[.pointer (some ⟨w.heap.size + 1, 0, none⟩), .int .i64 0]) ∧ Lies w' (w.heap.size + 1) w.heap.size (4 * n) l ∧ Below w.heap.size w w' := by
  have HL : Hid (n = l.length) := hl
  have HC : Hid _ := hc
  have HU : Hid _ := hu
  have hb : b < w.heap.size := World.block_lt_of_cell? _ _ (hc 0 (by omega))
  clear hl hc hu
  have hmk := makeB (4 * n) (by omega) w
  have em : ((4 * n : Nat) : Int) = 4 * (n : Int) := by omega
  rw [em] at hmk
  have e0 : ((n : Int) == 0) = false := by simp; omega
  have e1 : ¬ (65536 : Int) < (n : Int) := by omega
  go_enter Try.func9, Try.ntmps9
  go_wp2_with fail
  have R0 : Hid (Raw ((w.alloc (.cells (madeCells #[.int .u8 0] (4 * n)) 5)).alloc (.cells #[.slice (some ⟨w.heap.size, 0, none⟩) (4 * n) (4 * n)] 50)) (w.heap.size + 1) w.heap.size (4 * n) (4 * n) (upto l 0)) := by
    have hA := alloc_at (w.alloc (.cells (madeCells #[.int .u8 0] (4 * n)) 5)) (.cells #[.slice (some ⟨w.heap.size, 0, none⟩) (4 * n) (4 * n)] 50)
    rw [World.size_alloc] at hA
    have hB : ((w.alloc (.cells (madeCells #[.int .u8 0] (4 * n)) 5)).alloc (.cells #[.slice (some ⟨w.heap.size, 0, none⟩) (4 * n) (4 * n)] 50)).heap[w.heap.size]? = some (.cells (madeCells #[.int .u8 0] (4 * n)) 5) := kept_block ((Below.refl _ _).alloc (Nat.le_refl _) _)
    exact ⟨⟨Nat.le_refl _, by unfold maxLen; omega⟩, by omega, (cells_of hA).1 0 _ rfl, fun j hj => (cells_of hB).1 j _ (made_at _ _ _ hj), (cells_of hB).2.1⟩
  have B0 : Below w.heap.size w ((w.alloc (.cells (madeCells #[.int .u8 0] (4 * n)) 5)).alloc (.cells #[.slice (some ⟨w.heap.size, 0, none⟩) (4 * n) (4 * n)] 50)) := box2
  generalize (w.alloc (.cells (madeCells #[.int .u8 0] (4 * n)) 5)).alloc (.cells #[.slice (some ⟨w.heap.size, 0, none⟩) (4 * n) (4 * n)] 50) = V at *
  clear hmk
  go_loopw [5, 6, 23] (fun _ _ i wr => ∃ j : Nat, j ≤ n ∧ i = .int .i64 j ∧ Hid (Raw wr (w.heap.size + 1) w.heap.size (4 * n) (4 * n) (upto l j) ∧ Below w.heap.size w wr)) (fun _ _ i _ => n - (intOf i).toNat)
  case atStart => exact ⟨0, Nat.zero_le _, rfl, R0.out, B0⟩
  case round =>
    clear R0 B0
    obtain ⟨j, hj, rfl, hr⟩ := hrel
    by_cases hlt : j < n
    · have c : wr.cell? ⟨b, o + j, none⟩ = some (.int .u32 (wordAt l j)) := (hr.out.2.cell (p := ⟨b, o + j, none⟩) hb).trans (HC.out j hlt)
      have CP : Hid _ := mput hr.out.1 (4 * j) 4 (wordAt l j) (wordAt_in HU.out j) (Nat.le_refl _) (by omega)
      rw [upto_next] at CP
      have ej : ((4 * j : Nat) : Int) = 4 * (j : Int) := by omega
      rw [ej] at CP
      have HB : Hid _ := hr.out.2
      clear hr
      generalize wordAt l j = x at *
      go_wp2_with fail
      refine Calls.mono CP.out ?_
      rintro e w1 ⟨rfl, h1, h2⟩
      have h3 : Below w.heap.size w w1 := h2.below HB.out (fun k hk => by omega)
      clear h2 CP c HB
      go_wp2_with fail
      exact ⟨⟨j + 1, hlt, by go_num, h1, h3⟩, by simp [intOf]; omega⟩
    · have hjk : j = n := by omega
      subst hjk
      go_wp2
      go_ret2
      exact ⟨rfl, hr.out.1.lies (by rw [← HL.out]) (by rw [← HL.out]; exact ⟨n0, n1⟩) HU.out (fun t ht => by unfold upto; rw [if_pos ht]), hr.out.2⟩

theorem mnone (a : Option Addr) (n cap : Nat) (w : World) (hn : n = 0 ∨ 65536 < n) (hm : n ≤ 1000000000) :
    Calls Try.prog 9 #[.slice a n cap] w fun e w' => e = .returned (.tuple #[.pointer none, .int .i64 1]) ∧ w' = w := by
  rcases hn with rfl | hn
  · go_enter Try.func9, Try.ntmps9
    go_wp2
    go_ret2
    exact ⟨rfl, rfl⟩
  · have e0 : ((n : Int) == 0) = false := by simp; omega
    have e1 : (65536 : Int) < (n : Int) := by omega
    go_enter Try.func9, Try.ntmps9
    go_wp2
    go_ret2
    exact ⟨rfl, rfl⟩

/-- The first j words are written. -/
structure Part (w : World) (n : Nat) (l : List Int) (j : Nat) (wr : World) : Prop where
  cells : ∀ i, i < n → wr.cell? ⟨w.heap.size, i, none⟩ = some (.int .u32 (if i < j then wordAt l i else 0))
  free : ∀ i, wr.frozen? ⟨w.heap.size, i, none⟩ = false
  there : w.heap.size < wr.heap.size
  below : Below w.heap.size w wr
theorem Part.put {w wr : World} {n j : Nat} {l : List Int} (h : Part w n l j wr) (hj : j < n) : Part w n l (j + 1) (wr.setCell ⟨w.heap.size, j, none⟩ (.int .u32 (wordAt l j))) := by
  refine ⟨fun i hi => ?_, fun i => ?_, by simpa [World.setCell] using h.there, h.below.setCell (Nat.le_refl _) _⟩
  · by_cases hij : i = j
    · subst hij
      have := h.cells i hi
      rw [if_pos (by omega)]
      simp [go_sem, this]
    · have e : (if i < j + 1 then wordAt l i else 0) = if i < j then wordAt l i else 0 := by
        by_cases h2 : i < j
        · rw [if_pos h2, if_pos (by omega)]
        · rw [if_neg h2, if_neg (by omega)]
      rw [e, ← h.cells i hi]
      simp [go_sem]
  · have := h.free i
    simp [go_sem, this]
theorem get_word {l : List Int} (hu : ∀ z ∈ l, U32 z) (j : Nat) : bitsV (wordAt l (4 * j / 4)) ((4 * j % 4 : Nat) * 8) (8 * (4 : Nat)) = wordAt l j := by
  have h := wordAt_in hu j
  rw [show 4 * j / 4 = j by omega, bits_low _ (4 * j % 4) 4 h (by omega) (by omega), show 4 * j % 4 = 0 by omega]
  have h0 := h.1
  have h1 := h.2
  simp only [Nat.mul_zero, Int.pow_zero, Int.ediv_one]
  omega

set_option maxHeartbeats 1000000 in
theorem mwords {w : World} {m b cap : Nat} {l : List Int} (h : Lies w m b cap l) :
    Calls Try.prog 16 #[.pointer (some ⟨m, 0, none⟩)] w fun e w' => e = .returned (.slice (some ⟨w.heap.size, 0, none⟩) l.length l.length) ∧ w.heap.size < w'.heap.size ∧ (∀ i, i < l.length → w'.cell? ⟨w.heap.size, i, none⟩ = some (.int .u32 (wordAt l i))) ∧ (∀ i, w'.frozen? ⟨w.heap.size, i, none⟩ = false) ∧ Below w.heap.size w w' := by
  have HH : Hid _ := h
  have hh := h.here
  have n0 := h.len.1
  have n1 := h.len.2
  clear h
  generalize hn : l.length = n at *
  have hmk := makeW n (by omega) w
  have ed : (4 * (n : Int)).tdiv 4 = n := by rw [Int.tdiv_eq_ediv_of_nonneg (by omega)]; omega
  go_enter Try.func16, Try.ntmps16
  go_wp2_with fail
  have P0 : Hid (Part w n l 0 (w.alloc (.cells (madeCells #[.int .u32 0] n) 30))) := by
    obtain ⟨ca, cb, cc⟩ := cells_of (alloc_at w (.cells (madeCells #[.int .u32 0] n) 30))
    exact ⟨fun i hi => by rw [if_neg (Nat.not_lt_zero _)]; exact ca i _ (made_at _ _ _ hi), cb, cc, (Below.refl _ _).alloc (Nat.le_refl _) _⟩
  generalize w.alloc (.cells (madeCells #[.int .u32 0] n) 30) = V at *
  clear hmk
  go_loopw [4, 16] (fun _ i wr => ∃ j : Nat, j ≤ n ∧ i = .int .i64 j ∧ Hid (Part w n l j wr)) (fun _ i _ => n - (intOf i).toNat)
  case atStart => exact ⟨0, Nat.zero_le _, rfl, P0.out⟩
  case round =>
    clear P0
    obtain ⟨j, hj, rfl, hr⟩ := hrel
    by_cases hlt : j < n
    · have hL : Lies wr m b cap l := HH.out.keep (hr.out.below.block _ HH.out.there.1) (hr.out.below.block _ HH.out.there.2)
      have CG : Hid _ := mget hL (4 * j) 4 (Or.inr (Or.inr rfl)) (by omega) (by omega)
      rw [get_word HH.out.u32 j] at CG
      have ej : ((4 * j : Nat) : Int) = 4 * (j : Int) := by omega
      rw [ej] at CG
      have HP : Hid _ := hr.out.put hlt
      have c := hr.out.cells j hlt
      have f := hr.out.free j
      clear hr hL
      generalize wordAt l j = x at *
      generalize (if j < j then x else 0) = y at *
      go_wp2_with fail
      refine Calls.mono CG.out ?_
      rintro e w1 ⟨rfl, hw1⟩
      rw [hw1]
      clear hw1 CG
      go_wp2_with fail
      exact ⟨⟨j + 1, hlt, by go_num, HP.out⟩, by simp [intOf]; omega⟩
    · have hjk : j = n := by omega
      subst hjk
      go_wp2
      go_ret
      exact ⟨rfl, hr.out.there, fun i hi => by rw [hr.out.cells i hi, if_pos hi], hr.out.free, hr.out.below⟩

/-- A memory of package mem, for the statements. -/
def IsMem (w : World) (m : Addr) (l : List Int) (O : Nat → Prop) : Prop := ∃ a b cap, m = ⟨a, 0, none⟩ ∧ Lies w a b cap l ∧ O = fun k => k = a ∨ k = b

theorem same_below {R : Ending → Prop} {w : World} {f : FuncId} {vs : Array Value} (h : Calls Try.prog f vs w fun e w' => R e ∧ w' = w) : Calls Try.prog f vs w fun e w' => R e ∧ Below w.heap.size w w' :=
  h.mono fun _ _ ⟨a, b⟩ => ⟨a, by rw [b]; exact Below.refl _ _⟩

theorem memK : MemK IsMem where
  keep := by
    rintro w w' m l O ⟨a, b, cap, rfl, h, rfl⟩ hk
    exact ⟨a, b, cap, rfl, h.keep (hk a (Or.inl rfl)) (hk b (Or.inr rfl)), rfl⟩
  own := by
    rintro w m l O k ⟨a, b, cap, rfl, h, rfl⟩ (rfl | rfl)
    · exact h.there.1
    · exact h.there.2
  new := by
    intro b o n cap l w hl n0 n1 _ hu hc
    refine (mnew b o n cap l w hl n0 n1 hu hc).mono ?_
    rintro e w' ⟨rfl, h, hb⟩
    exact ⟨_, _, rfl, ⟨_, _, _, rfl, h, rfl⟩, by rintro k (rfl | rfl) <;> omega, hb⟩
  none := fun a n cap w h h' => same_below (mnone a n cap w h h')
  load := by
    rintro w m l O ⟨a, b, cap, rfl, h, rfl⟩ p k s hp
    exact same_below (mload h p k s hp)
  store := by
    rintro w m l O ⟨a, b, cap, rfl, h, rfl⟩ p k x hp hx
    refine (mstore h p k x hp hx).mono ?_
    rintro e w' ⟨rfl, h1, h2⟩
    exact ⟨rfl, ⟨_, ⟨_, _, _, rfl, h1, rfl⟩, fun _ h => Or.inl h⟩, ⟨h2.os, h2.tape, h2.output, h2.size, fun k hk ho => h2.block k hk fun e => ho (Or.inr e)⟩⟩
  words := by
    rintro w m l O ⟨a, b, cap, rfl, h, rfl⟩
    refine (mwords h).mono ?_
    rintro e w' ⟨rfl, h1, h2, h3, h4⟩
    exact ⟨_, _, rfl, Nat.le_refl _, h1, h2, h3, h4⟩
  size := by
    rintro w m l O ⟨a, b, cap, rfl, h, rfl⟩
    exact same_below (msize h)
  load0 := fun p k s w => same_below (mload0 p k s w)
  store0 := fun p k x w => same_below (mstore0 p k x w)
  words0 := fun w => (mwords0 w).mono fun _ _ ⟨a, b⟩ => ⟨⟨_, _, a⟩, by rw [b]; exact Below.refl _ _⟩
  size0 := fun w => same_below (msize0 w)
end Go.Proofs.Ytbfliilabkjkgaa
