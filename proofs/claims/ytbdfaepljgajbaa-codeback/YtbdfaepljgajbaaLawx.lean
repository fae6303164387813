/-
  CodeWords: of any word that is an instruction the instruction's word is it.
-/
import Derived.Test.YtbdfaepljgajbaaLawb
namespace Go.Proofs.Ytbdfaepljgajbaa
open Go.RowKit

theorem andNot_low {x : Int} (hx : U32 x) (k : Nat) (hk : k ≤ 32) (m : Nat) (hm : m = 2 ^ k - 1) : U32 (bits .andNot .u32 x m) ∧ bits .andNot .u32 x m % 2 ^ k = 0 := by
  refine ⟨bits_u32 _ _ _, ?_⟩
  obtain ⟨X, rfl⟩ := Int.eq_ofNat_of_zero_le hx.1
  have h1 : X < 4294967296 := by have := hx.2; omega
  have hp : 2 ^ k ≤ 2 ^ 32 := Nat.pow_le_pow_right (by omega) hk
  have hpos : 0 < 2 ^ k := Nat.two_pow_pos k
  rw [u32_andNot_nat X m h1 (by omega)]
  have e : (X &&& (4294967295 - m)) % 2 ^ k = 0 := by
    rw [Nat.and_mod_two_pow]
    have : (4294967295 - m) % 2 ^ k = 0 := by
      have h2 : 4294967295 - m = 2 ^ 32 - 2 ^ k := by omega
      have h3 : 2 ^ 32 = 2 ^ k * 2 ^ (32 - k) := by rw [← Nat.pow_add]; congr 1; omega
      rw [h2, h3]
      have h4 : 2 ^ k * 2 ^ (32 - k) - 2 ^ k = 2 ^ k * (2 ^ (32 - k) - 1) := by rw [Nat.mul_sub, Nat.mul_one]
      rw [h4]; exact Nat.mul_mod_right _ _
    rw [this, Nat.and_zero]
  exact_mod_cast e
theorem or_low {x : Int} (hx : U32 x) (v : Int) (h0 : 0 ≤ v) (h1 : v < 128) : U32 (bits .or .u32 (bits .andNot .u32 x 127) v) ∧ bits .or .u32 (bits .andNot .u32 x 127) v % 128 = v := by
  obtain ⟨u, hl⟩ := andNot_low hx 7 (by omega) 127 (by decide)
  have hl' : bits .andNot .u32 x 127 % 128 = 0 := hl
  have e := or_add 7 (by omega) u h0 (by simpa using h1) hl
  refine ⟨bits_u32 _ _ _, ?_⟩
  have e' : bits .or .u32 (bits .andNot .u32 x 127) v = bits .andNot .u32 x 127 + v := e
  rw [e']
  omega
theorem get_at {y : Int} (j : Nat) (hj : j < 53) (hk : (formAt j).2.k = 85 ∨ (formAt j).2.k = 74) (ho : y % 128 = (formAt j).2.o) : ∃ i, getV y = some i := by
  refine ⟨_, get_of hj ((hasB_iff _ _).2 ?_)⟩
  unfold hasF
  rw [if_neg (by omega), if_neg (by omega), if_pos hk]
  exact ho
theorem get_low {y : Int} (h : y % 4 = 0) : getV y = none := by
  refine find_not fun j hj => ?_
  cases hb : hasB (formAt j).2 y with
  | false => rfl
  | true =>
    exfalso
    have h1 := (hasB_iff _ _).1 hb
    have h2 : ∀ q ∈ forms, q.2.o % 4 = 3 := by simp [forms]
    have h3 := h2 _ (formAt_mem j hj)
    unfold hasF at h1
    split at h1
    · omega
    · split at h1
      · omega
      · split at h1
        · omega
        · split at h1
          · omega
          · exact h1

/-- What the code's Get says of a word that is one, of a word that is none. -/
theorem get_ok {y : Int} (hy : U32 y) {i : MIns} (h : getV y = some i) : ∃ s d a b m, i = ⟨s.toList, d, a, b, m⟩ ∧ ∀ w, Calls Try.prog 10 #[.int .u32 y] w fun e w' => e = .returned (.tuple #[.agg #[.string s, .int .i64 d, .int .i64 a, .int .i64 b, .int .i32 m], .int .i64 0]) ∧ Below w.heap.size w w' := by
  obtain ⟨s, d, a, b, m, ok, ht, CG⟩ := cGet y hy
  rcases ht with ⟨rfl, ht⟩ | ⟨rfl, _, _, _, _, _, ht⟩
  · rw [h] at ht
    exact ⟨s, d, a, b, m, Option.some.inj ht, by simpa using CG⟩
  · rw [h] at ht; cases ht
theorem get_none3 {y : Int} (hy : U32 y) (h : getV y = none) : ∀ w, Calls Try.prog 10 #[.int .u32 y] w fun e w' => e = .returned (.tuple #[.agg #[.string ⟨#[]⟩, .int .i64 0, .int .i64 0, .int .i64 0, .int .i32 0], .int .i64 3]) ∧ Below w.heap.size w w' := by
  obtain ⟨s, d, a, b, m, ok, ht, CG⟩ := cGet y hy
  rcases ht with ⟨rfl, ht⟩ | ⟨rfl, rfl, rfl, rfl, rfl, rfl, ht⟩
  · rw [h] at ht; cases ht
  · simpa using CG
theorem put_ok {s : ByteArray} {d a b m y : Int} (hy : U32 y) (h : getV y = some ⟨s.toList, d, a, b, m⟩) : (∀ w, Calls Try.prog 8 #[.agg #[.string s, .int .i64 d, .int .i64 a, .int .i64 b, .int .i32 m]] w fun e w' => e = .returned (.tuple #[.int .u32 y, .int .i64 0]) ∧ Below w.heap.size w w') ∧
    ∀ w, Calls Try.prog 12 #[.agg #[.string s, .int .i64 d, .int .i64 a, .int .i64 b, .int .i32 m]] w fun e w' => e = .returned (.bool true) ∧ Below w.heap.size w w' := by
  obtain ⟨h1, h2⟩ := put_get hy.1 hy.2 h
  constructor
  · intro w
    have := cPut s d a b m w
    unfold putN putE at this
    rw [h1, h2] at this
    simpa using this
  · intro w
    have := cMay s d a b m w
    rw [h1] at this
    exact this

def wTab : List Value := [.int .u32 51, .int .u32 19, .int .u32 3, .int .u32 35, .int .u32 99, .int .u32 55, .int .u32 23, .int .u32 111, .int .u32 103, .int .u32 115, .int .u32 15]
theorem wTab_at (k : Nat) (h : k < 11) : ∃ v, wTab[k]? = some (.int .u32 v) := by
  have h' : k = 0 ∨ k = 1 ∨ k = 2 ∨ k = 3 ∨ k = 4 ∨ k = 5 ∨ k = 6 ∨ k = 7 ∨ k = 8 ∨ k = 9 ∨ k = 10 := by omega
  rcases h' with rfl | rfl | rfl | rfl | rfl | rfl | rfl | rfl | rfl | rfl | rfl <;> exact ⟨_, rfl⟩
/-- The three words that are asked for. -/
def three (x y z : Int) : Nat → Int
  | 0 => x
  | 1 => y
  | _ => z

set_option maxRecDepth 100000 in
set_option maxHeartbeats 4000000 in
theorem codeWords (x c : Int) (hx : U32 x) (hc : 0 ≤ c ∧ c ≤ 255) (w : World) :
    Calls Try.prog 7 #[.int .u32 x, .int .u8 c] w fun e w' => e = .returned (.bool true) ∧ Below w.heap.size w w' := by
  obtain ⟨hc0, hc1⟩ := hc
  have k0 : 0 ≤ c % 11 := by omega
  have k1 : c % 11 < 11 := by omega
  generalize hk : c % 11 = k at *
  obtain ⟨tv, htv⟩ := wTab_at k.toNat (by omega)
  have t0 : (w.alloc (.cells wTab.toArray 24)).cell? ⟨w.heap.size, k.toNat, none⟩ = some (.int .u32 tv) := cell_new _ _ _ _ _ htv
  unfold wTab at t0
  have Ux : Hid (U32 x) := hx
  obtain ⟨x0, x1⟩ := hx
  go_enter Try.func7, Try.ntmps7
  go_wp2_with fail
  clear t0 htv
  obtain ⟨y, hy⟩ : ∃ y, bits .or .u32 (bits .andNot .u32 x 127) tv = y := ⟨_, rfl⟩
  obtain ⟨z, hz⟩ : ∃ z, bits .andNot .u32 y 4261412864 = z := ⟨_, rfl⟩
  have Uy : Hid (U32 y) := by rw [← hy]; exact bits_u32 _ _ _
  have Uz : Hid (U32 z) := by rw [← hz]; exact bits_u32 _ _ _
  rw [hy, hz]
  clear hy hz
  have L1 : ((w.alloc (.cells #[.int .u32 51, .int .u32 19, .int .u32 3, .int .u32 35, .int .u32 99, .int .u32 55, .int .u32 23, .int .u32 111, .int .u32 103, .int .u32 115, .int .u32 15] 24)).alloc (.cells #[.int .u32 x, .int .u32 y, .int .u32 z] 24)).heap[w.heap.size + 1]? = some (.cells #[.int .u32 x, .int .u32 y, .int .u32 z] 24) := by
    have := alloc_at (w.alloc (.cells #[.int .u32 51, .int .u32 19, .int .u32 3, .int .u32 35, .int .u32 99, .int .u32 55, .int .u32 23, .int .u32 111, .int .u32 103, .int .u32 115, .int .u32 15] 24)) (.cells #[.int .u32 x, .int .u32 y, .int .u32 z] 24)
    rwa [World.size_alloc] at this
  have HB : Hid (Below w.heap.size w ((w.alloc (.cells #[.int .u32 51, .int .u32 19, .int .u32 3, .int .u32 35, .int .u32 99, .int .u32 55, .int .u32 23, .int .u32 111, .int .u32 103, .int .u32 115, .int .u32 15] 24)).alloc (.cells #[.int .u32 x, .int .u32 y, .int .u32 z] 24))) := box2
  generalize (w.alloc (.cells #[.int .u32 51, .int .u32 19, .int .u32 3, .int .u32 35, .int .u32 99, .int .u32 55, .int .u32 23, .int .u32 111, .int .u32 103, .int .u32 115, .int .u32 15] 24)).alloc (.cells #[.int .u32 x, .int .u32 y, .int .u32 z] 24) = V at *
  generalize w.heap.size + 1 = lb at *
  have HL : Hid _ := L1
  rw [hk]
  clear L1 hk
  go_loopw [7] (fun i wr => ∃ k : Nat, k ≤ 3 ∧ i = .int .i64 k ∧ Hid (Below V.heap.size V wr)) (fun i _ => 3 - (intOf i).toNat)
  case atStart => exact ⟨0, Nat.zero_le _, rfl, Below.refl _ _⟩
  case round =>
    obtain ⟨n, hn, rfl, hbr⟩ := hrel
    by_cases hlt : n < 3
    · obtain ⟨lc, _, lz⟩ := cells_of (kept_on HL.out hbr.out)
      have hv : ∃ v, U32 v ∧ wr.cell? ⟨lb, n, none⟩ = some (.int .u32 v) := by
        have h' : n = 0 ∨ n = 1 ∨ n = 2 := by omega
        rcases h' with rfl | rfl | rfl
        · exact ⟨x, Ux.out, lc 0 _ rfl⟩
        · exact ⟨y, Uy.out, lc 1 _ rfl⟩
        · exact ⟨z, Uz.out, lc 2 _ rfl⟩
      obtain ⟨v, hv0, hvc⟩ := hv
      have C0 : Hid _ := cerr 0
      have C3 : Hid _ := cerr 3
      clear lc
      cases hg : getV v with
      | none =>
        have CG : Hid _ := get_none3 hv0 hg
        clear hg hv0
        go_wp2_with fail
        refine (CG.out _).mono ?_
        rintro e w1 ⟨rfl, hb1⟩
        obtain ⟨tc, _, _⟩ := cells_of (alloc_at w1 (.cells #[.string ⟨#[]⟩, .int .i64 0, .int .i64 0, .int .i64 0, .int .i32 0] 23))
        have tc0 := tc 0 (.string ⟨#[]⟩) rfl
        have HB1 : Hid (Below V.heap.size V (w1.alloc (.cells #[.string ⟨#[]⟩, .int .i64 0, .int .i64 0, .int .i64 0, .int .i32 0] 23))) := (below_step hbr.out hb1).alloc (below_step hbr.out hb1).size _
        clear tc hb1
        go_wp2_with (first | (go_at_call 14; refine (C3.out _).mono ?_; rintro e w' ⟨rfl, rfl⟩))
        exact ⟨⟨n + 1, by omega, by go_num, HB1⟩, by simp [intOf]; omega⟩
      | some i =>
        obtain ⟨s, d, a, b, m, rfl, CG0⟩ := get_ok hv0 hg
        obtain ⟨CP0, CM0⟩ := put_ok hv0 hg
        have CG : Hid _ := CG0
        have CP : Hid _ := CP0
        have CM : Hid _ := CM0
        clear hg hv0 CG0 CP0 CM0
        go_wp2_with fail
        refine (CG.out _).mono ?_
        rintro e w1 ⟨rfl, hb1⟩
        have hb2 : Below wr.heap.size wr (w1.alloc (.cells #[.string s, .int .i64 d, .int .i64 a, .int .i64 b, .int .i32 m] 23)) := hb1.alloc hb1.size _
        have T1 := alloc_at w1 (.cells #[.string s, .int .i64 d, .int .i64 a, .int .i64 b, .int .i32 m] 23)
        have hvc1 := (hb2.cell (p := ⟨lb, n, none⟩) lz).trans hvc
        have lz1 := Nat.lt_of_lt_of_le lz hb2.size
        have HB1 : Hid (Below V.heap.size V (w1.alloc (.cells #[.string s, .int .i64 d, .int .i64 a, .int .i64 b, .int .i32 m] 23))) := below_step hbr.out hb2
        obtain ⟨tc, _, tz⟩ := cells_of T1
        have t0 := tc 0 (.string s) rfl
        have t1 := tc 1 (.int .i64 d) rfl
        have t2 := tc 2 (.int .i64 a) rfl
        have t3 := tc 3 (.int .i64 b) rfl
        have t4 := tc 4 (.int .i32 m) rfl
        clear tc hb1 hb2 hvc lz hbr
        go_wp2_with (first | (go_at_call 14; refine (C0.out _).mono ?_; rintro e w' ⟨rfl, rfl⟩))
        generalize w1.alloc (.cells #[.string s, .int .i64 d, .int .i64 a, .int .i64 b, .int .i32 m] 23) = V1 at *
        generalize w1.heap.size = tb at *
        refine (CP.out _).mono ?_
        rintro e w2 ⟨rfl, hb2⟩
        have hvc2 := (hb2.cell (p := ⟨lb, n, none⟩) lz1).trans hvc1
        have HB2 : Hid (Below V.heap.size V w2) := below_step HB1.out hb2
        obtain ⟨tc, _, tz⟩ := cells_of (kept_on T1 hb2)
        clear t0 t1 t2 t3 t4
        have t0 := tc 0 (.string s) rfl
        have t1 := tc 1 (.int .i64 d) rfl
        have t2 := tc 2 (.int .i64 a) rfl
        have t3 := tc 3 (.int .i64 b) rfl
        have t4 := tc 4 (.int .i32 m) rfl
        clear tc hb2 hvc1 lz1 HB1 T1
        go_wp2_with (first | (go_at_call 14; refine (C0.out _).mono ?_; rintro e w' ⟨rfl, rfl⟩))
        refine (CM.out _).mono ?_
        rintro e w3 ⟨rfl, hb3⟩
        have HB3 : Hid (Below V.heap.size V w3) := below_step HB2.out hb3
        clear hb3
        go_wp2_with fail
        exact ⟨⟨n + 1, by omega, by go_num, HB3⟩, by simp [intOf]; omega⟩
    · have hn3 : n = 3 := by omega
      subst hn3
      obtain ⟨u55, m55⟩ := or_low Ux.out 55 (by omega) (by omega)
      obtain ⟨u23, m23⟩ := or_low Ux.out 23 (by omega) (by omega)
      obtain ⟨u111, m111⟩ := or_low Ux.out 111 (by omega) (by omega)
      obtain ⟨u3, m3⟩ := andNot_low Ux.out 2 (by omega) 3 (by decide)
      obtain ⟨i1, g1⟩ := get_at 42 (by omega) (Or.inl rfl) m55
      obtain ⟨i2, g2⟩ := get_at 43 (by omega) (Or.inl rfl) m23
      obtain ⟨i3, g3⟩ := get_at 44 (by omega) (Or.inr rfl) m111
      have g4 := get_low m3
      obtain ⟨s1, d1, a1, b1, e1, _, C1'⟩ := get_ok u55 g1
      obtain ⟨s2, d2, a2, b2, e2, _, C2'⟩ := get_ok u23 g2
      obtain ⟨s3, d3, a3, b3, e3, _, C3'⟩ := get_ok u111 g3
      have C1 : Hid _ := C1'
      have C2 : Hid _ := C2'
      have C3 : Hid _ := C3'
      have C4 : Hid _ := get_none3 u3 g4
      have E0 : Hid _ := cerr 0
      have E3 : Hid _ := cerr 3
      have HW : Hid (Below w.heap.size w wr) := below_step HB.out hbr.out
      clear u55 u23 u111 u3 m55 m23 m111 m3 g1 g2 g3 g4 C1' C2' C3'
      go_wp2_with fail
      refine (C1.out _).mono ?_
      rintro e v1 ⟨rfl, h1⟩
      have G1 : Hid (Below w.heap.size w (v1.alloc (.cells #[.string s1, .int .i64 d1, .int .i64 a1, .int .i64 b1, .int .i32 e1] 23))) := (below_step HW.out h1).alloc (below_step HW.out h1).size _
      clear h1
      go_wp2_with fail
      refine (C2.out _).mono ?_
      rintro e v2 ⟨rfl, h2⟩
      have G2 : Hid (Below w.heap.size w (v2.alloc (.cells #[.string s2, .int .i64 d2, .int .i64 a2, .int .i64 b2, .int .i32 e2] 23))) := (below_step G1.out h2).alloc (below_step G1.out h2).size _
      clear h2
      go_wp2_with fail
      refine (C3.out _).mono ?_
      rintro e v3 ⟨rfl, h3⟩
      have G3 : Hid (Below w.heap.size w (v3.alloc (.cells #[.string s3, .int .i64 d3, .int .i64 a3, .int .i64 b3, .int .i32 e3] 23))) := (below_step G2.out h3).alloc (below_step G2.out h3).size _
      clear h3
      go_wp2_with fail
      refine (C4.out _).mono ?_
      rintro e v4 ⟨rfl, h4⟩
      have G4 : Hid (Below w.heap.size w (v4.alloc (.cells #[.string ⟨#[]⟩, .int .i64 0, .int .i64 0, .int .i64 0, .int .i32 0] 23))) := (below_step G3.out h4).alloc (below_step G3.out h4).size _
      clear h4
      go_wp2_with (first | (go_at_call 14; first | (refine (E0.out _).mono ?_; rintro e w' ⟨rfl, rfl⟩) | (refine (E3.out _).mono ?_; rintro e w' ⟨rfl, rfl⟩)))
      refine (cawake _).mono ?_
      rintro e v5 ⟨rfl, h5⟩
      go_wp2
      go_ret
      exact ⟨rfl, below_step G4.out h5⟩
end Go.Proofs.Ytbdfaepljgajbaa
