/-
  Package image: bytes are taken.
-/
import Derived.Test.YtfjppgfnjjmkpaaImb
namespace Go.Proofs.Ytfjppgfnjjmkpaa
open Go.RowKit

theorem inR_end {lo hi step A : Int} {j : Nat} (hs : 0 < step) (hA : A = lo + step * j) (hh : hi ≤ A) (hj : j = 0 ∨ A - step < hi) (x : Int) : inR lo A step x = inR lo hi step x := by
  rw [Bool.eq_iff_iff]
  unfold inR
  simp only [Bool.and_eq_true, beq_iff_eq, decide_eq_true_eq]
  constructor
  · rintro ⟨⟨h1, h2⟩, h3⟩
    refine ⟨⟨h1, ?_⟩, h3⟩
    rcases hj with rfl | hj
    · exfalso
      have : step * ((0 : Nat) : Int) = 0 := by simp
      omega
    · have h5 := Int.emod_add_mul_ediv (x - lo) step
      rw [h3] at h5
      have a2 : (x - lo) / step < (j : Int) := by
        rw [Int.ediv_lt_iff_lt_mul hs, Int.mul_comm]
        omega
      have a3 : step * ((x - lo) / step) ≤ step * ((j : Int) - 1) := Int.mul_le_mul_of_nonneg_left (by omega) (by omega)
      rw [Int.mul_sub, Int.mul_one] at a3
      omega
  · rintro ⟨⟨h1, h2⟩, h3⟩
    exact ⟨⟨h1, by omega⟩, h3⟩
theorem inR_at {lo hi step A : Int} {j : Nat} (hs : 0 < step) (hA : A = lo + step * j) (hh : A < hi) : inR lo hi step A = true := by
  have h0 : 0 ≤ step * (j : Int) := Int.mul_nonneg (by omega) (by omega)
  unfold inR
  rw [decide_eq_true (show lo ≤ A by omega), decide_eq_true hh, show A - lo = step * (j : Int) by omega, Int.mul_emod_right]
  rfl
theorem addR_at {M : Int → Int → Bool} {o lo step A : Int} : addR M o lo A step o A = M o A := by
  unfold addR inR
  rw [decide_eq_false (show ¬ A < A by omega), Bool.and_false, Bool.false_and, Bool.and_false, Bool.false_or]
structure TakeSt (w V : World) (g n : Nat) (M : Int → Int → Bool) (o lo hi step A : Int) (x y : Bool) (j : Nat) : Prop where
  at' : A = lo + step * j
  last : j = 0 ∨ A - step < hi
  cnt : (j : Int) ≤ A - lo
  spot : SpotIs V g (n + j) (addR M o lo A step)
  free : ∀ a, inR lo A step a = true → M o a = false
  grown : w.grownBy V (some g)
  box : V.heap[w.heap.size]? = some (.cells #[.int .u32 lo, .int .u32 hi, .bool x, .bool y] 25)
theorem inR_next {lo step a : Int} (hs : 0 < step) (j : Nat) (h : inR lo (lo + step * ((j : Int) + 1)) step a = true) : a = lo + step * j ∨ inR lo (lo + step * j) step a = true := by
  have e := addR_next (fun _ _ => false) 1 lo step hs j 1 a
  unfold putS addR at e
  rw [h] at e
  simpa using e
/-- A truth is told, of which more is known. -/
structure Told (e : Ending) (R : Bool → Prop) : Prop where
  ex : ∃ b : Bool, e = .returned (.bool b) ∧ R b
/-- What taking leaves. -/
structure TakeRes (w w' : World) (g n : Nat) (M : Int → Int → Bool) (o lo hi step : Int) (b : Bool) : Prop where
  grown : w.grownBy w' (some g)
  yes : b = true → (∀ a, inR lo hi step a = true → M o a = false) ∧ ∃ n', n' ≤ n + 300010 ∧ SpotIs w' g n' (addR M o lo hi step)
  no : b = false → ∃ a, inR lo hi step a = true ∧ M o a = true
set_option maxRecDepth 100000 in
set_option maxHeartbeats 2000000 in
theorem iTake {w : World} {g n : Nat} {M : Int → Int → Bool} (h : SpotIs w g n M) (o : Int) (ho : Two o) (r : Rg) (hr : RgU r) (hhi : r.hi ≤ 300000) (step : Int) (hs : step = 1 ∨ step = 4) (hn : n ≤ 100000000) :
    Calls Try.prog 26 #[.map (some g), .int .i64 o, rgV r, .int .u32 step] w fun e w' => Told e (TakeRes w w' g n M o r.lo r.hi step) := by
  obtain ⟨lo, hi, x, y⟩ := r
  obtain ⟨⟨hl0, hl1⟩, hh0, hh1⟩ := hr
  simp only at hl0 hl1 hh0 hh1 hhi
  unfold rgV
  simp only
  have HT : Hid _ := ho
  have hs0 : 0 < step := by omega
  have hs4 : step ≤ 4 := by omega
  have hg : g < w.heap.size := spot_lt h
  have T0 : Hid (TakeSt w (w.alloc (.cells #[.int .u32 lo, .int .u32 hi, .bool x, .bool y] 25)) g n M o lo hi step lo x y 0) :=
    ⟨by simp, .inl rfl, by simp, spot_ext (spot_kept h ((Below.refl _ _).alloc (Nat.le_refl _) _)) (fun o' a => (addR_none M o lo step o' a).symm), fun a ha => by
      exfalso
      unfold inR at ha
      simp only [Bool.and_eq_true, decide_eq_true_eq] at ha
      omega, grown_below ((Below.refl _ _).alloc (Nat.le_refl _) _), alloc_at w _⟩
  have HG : Hid (g < w.heap.size) := hg
  have HN : Hid (n ≤ 100000000) := hn
  have HS0 : Hid (0 < step) := hs0
  have HL : Hid (0 ≤ lo) := hl0
  have HL1 : Hid (lo < 4294967296) := hl1
  clear h ho hg hn hs hl1
  go_enter Try.func26, Try.ntmps26
  go_wp2_with fail
  go_loopw [9, 10, 11, 12] (fun at' _ _ _ wr => ∃ (j : Nat) (A : Int) (V : World), V = wr ∧ at' = .int .u32 A ∧ 0 ≤ A ∧ A < 4294967296 ∧ Hid (TakeSt w V g n M o lo hi step A x y j)) (fun at' _ _ _ _ => (hi - intOf at').toNat)
  case atStart => exact ⟨0, lo, _, rfl, rfl, hl0, HL1.out, T0.out⟩
  case round =>
    clear T0
    obtain ⟨j, A, V, rfl, rfl, hA0, hA1, ht⟩ := hrel
    obtain ⟨ic, _, _⟩ := cells_of ht.out.box
    have c1 : V.cell? ⟨w.heap.size, 1, none⟩ = some (.int .u32 hi) := ic 1 _ rfl
    clear ic
    have hsz : w.heap.size < V.heap.size := (Array.getElem?_eq_some_iff.1 ht.out.box).1
    by_cases hlt : A < hi
    · have B1 : Below V.heap.size V (V.alloc (.cells #[.int .i64 o, .int .u32 A] 69)) := (Below.refl _ _).alloc (Nat.le_refl _) _
      have S1 : Hid (SpotIs (V.alloc (.cells #[.int .i64 o, .int .u32 A] 69)) g (n + j) (addR M o lo A step)) := spot_kept ht.out.spot B1
      have B2 : Below V.heap.size V ((V.alloc (.cells #[.int .i64 o, .int .u32 A] 69)).alloc (.cells #[] 70)) := B1.alloc (by rw [World.size_alloc]; omega) _
      have S2 : Hid (SpotIs ((V.alloc (.cells #[.int .i64 o, .int .u32 A] 69)).alloc (.cells #[] 70)) g (n + j) (addR M o lo A step)) := spot_kept ht.out.spot B2
      have B2h : Hid _ := B2
      have HU : Hid (U32 A) := ⟨hA0, by omega⟩
      clear B1 B2
      cases hM : M o A
      · have hM' : addR M o lo A step o A = false := by rw [addR_at]; exact hM
        have hcn := ht.out.cnt
        have hAn : (A + step) % 4294967296 = A + step := by omega
        have HLT : Hid (n + j < maxLen) := by
          have := HN.out
          have := HL.out
          show n + j < maxLen
          unfold maxLen
          omega
        clear hcn
        go_wp2_with (first | (refine wpList_spget rfl rfl rfl rfl S1.out HT.out HU.out ?_; rw [hM']) | (refine wpList_spput rfl rfl rfl rfl rfl S2.out HT.out HU.out HLT.out ?_; intro w3 M3 G3; have T3 : Hid _ := And.intro M3 G3; clear M3 G3))
        have HT3 : Hid (TakeSt w w3 g n M o lo hi step (A + step) x y (j + 1)) := by
          have e1 : step * ((j + 1 : Nat) : Int) = step * j + step := by push_cast; rw [Int.mul_add, Int.mul_one]
          have hat := ht.out.at'
          have hsp := T3.out.1
          refine ⟨by rw [e1]; omega, .inr (by omega), by have := ht.out.cnt; have := HS0.out; push_cast; omega, spot_ext hsp (fun o' a => ?_), fun a ha => ?_, (ht.out.grown.trans (grown_below B2h.out)).trans T3.out.2, ?_⟩
          · rw [hat, addR_next M o lo step HS0.out j o' a, show lo + step * ((j : Int) + 1) = lo + step * (j : Int) + step by rw [Int.mul_add, Int.mul_one]; omega]
          · by_cases e : inR lo A step a = true
            · exact ht.out.free a e
            · rw [hat, show lo + step * (j : Int) + step = lo + step * ((j : Int) + 1) by rw [Int.mul_add, Int.mul_one]; omega] at ha
              rcases inR_next HS0.out j ha with e2 | e2
              · rw [e2, ← hat]; exact hM
              · rw [← hat] at e2; exact absurd e2 e
          · rw [T3.out.2.block _ (by rw [World.size_alloc, World.size_alloc]; omega) (fun e => by have := HG.out; cases e; omega)]
            exact kept_on ht.out.box B2h.out
        exact ⟨⟨j + 1, A + step, _, rfl, rfl, by omega, by omega, HT3⟩, by simp [intOf]; omega⟩
      · have hM' : addR M o lo A step o A = true := by rw [addR_at]; exact hM
        go_wp2_with (first | (refine wpList_spget rfl rfl rfl rfl S1.out HT.out HU.out ?_; rw [hM']))
        go_ret
        exact ⟨false, rfl, ht.out.grown.trans (grown_below B2h.out), fun e => (by cases e), fun _ => ⟨A, inR_at HS0.out ht.out.at' hlt, hM⟩⟩
    · go_wp2_with fail
      go_ret
      have hcn := ht.out.cnt
      have hla := ht.out.last
      refine ⟨true, rfl, ht.out.grown, fun _ => ⟨fun a ha => ht.out.free a (by rw [inR_end HS0.out ht.out.at' (by omega) ht.out.last]; exact ha), n + j, ?_, spot_ext ht.out.spot (fun o' a => by
        unfold addR
        rw [inR_end HS0.out ht.out.at' (by omega) ht.out.last])⟩, fun e => by cases e⟩
      have := HL.out
      rcases hla with e | e <;> omega
/-- All blocks of cells stay. -/
structure KC (W W' : World) : Prop where
  size : W.heap.size ≤ W'.heap.size
  same : ∀ (k : Nat) (cs : Array Value) (t : TypeId) (fr : Nat × Nat), W.heap[k]? = some (.cells cs t fr) → W'.heap[k]? = some (.cells cs t fr)
theorem KC.trans {A B C : World} (h : KC A B) (k : KC B C) : KC A C := ⟨Nat.le_trans h.size k.size, fun i cs t fr hi => k.same i cs t fr (h.same i cs t fr hi)⟩
theorem KC.refl (A : World) : KC A A := ⟨Nat.le_refl _, fun _ _ _ _ h => h⟩
theorem KC.of_below {A B : World} (h : Below A.heap.size A B) : KC A B := ⟨h.size, fun _ _ _ _ hk => kept_on hk h⟩
theorem KC.of_grown {A B : World} {g : Nat} (h : A.grownBy B (some g)) (hg : ∀ cs t fr, A.heap[g]? ≠ some (.cells cs t fr)) : KC A B :=
  ⟨h.size, fun k cs t fr hk => (h.block k (Array.getElem?_eq_some_iff.1 hk).1 (fun e => by cases e; exact hg cs t fr hk)).trans hk⟩
theorem spot_map {w : World} {g n : Nat} {M : Int → Int → Bool} (h : SpotIs w g n M) : ∀ cs t fr, w.heap[g]? ≠ some (.cells cs t fr) := by
  obtain ⟨⟨D, ⟨es, clock, h1, _⟩, _⟩⟩ := h
  intro cs t fr e
  rw [h1] at e
  cases e
end Go.Proofs.Ytfjppgfnjjmkpaa
