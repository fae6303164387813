/-
  CodeBack: each instruction that may be is told again by its word; of a word with a bit turned another one is, or none; two that differ have two words.
-/
import Derived.Test.YtbdfaepljgajbaaLawx
import Derived.Test.YtbdfaepljgajbaaInsq
namespace Go.Proofs.Ytbdfaepljgajbaa
open Go.RowKit

/-- The instruction by numbers, its word, what is told of it. -/
theorem ins_all (c d a b m : Int) (hc : 0 ≤ c ∧ c ≤ 255) (hd : 0 ≤ d ∧ d ≤ 255) (ha : 0 ≤ a ∧ a ≤ 255) (hb : 0 ≤ b ∧ b ≤ 255) (hm : -2147483648 ≤ m ∧ m ≤ 2147483647) : ∃ (S : ByteArray) (D A B M X : Int), mayV ⟨S.toList, D, A, B, M⟩ = true ∧ putV ⟨S.toList, D, A, B, M⟩ = X ∧ U32 X ∧
    (∀ w, Calls Try.prog 16 #[.int .u8 c, .int .u8 d, .int .u8 a, .int .u8 b, .int .i32 m] w fun e w' => e = .returned (.agg #[.string S, .int .i64 D, .int .i64 A, .int .i64 B, .int .i32 M]) ∧ Below w.heap.size w w') ∧
    (∀ w, Calls Try.prog 8 #[.agg #[.string S, .int .i64 D, .int .i64 A, .int .i64 B, .int .i32 M]] w fun e w' => e = .returned (.tuple #[.int .u32 X, .int .i64 0]) ∧ Below w.heap.size w w') ∧
    (∀ w, Calls Try.prog 12 #[.agg #[.string S, .int .i64 D, .int .i64 A, .int .i64 B, .int .i32 M]] w fun e w' => e = .returned (.bool true) ∧ Below w.heap.size w w') ∧
    (∀ w, Calls Try.prog 10 #[.int .u32 X] w fun e w' => e = .returned (.tuple #[.agg #[.string S, .int .i64 D, .int .i64 A, .int .i64 B, .int .i32 M], .int .i64 0]) ∧ Below w.heap.size w w') := by
  have hmay := insN_may c d a b m
  have hu : U32 (putV (insN c d a b m)) := put_u32 hmay
  have hg := get_put hmay
  have hI := rIns c d a b m hc hd ha hb hm
  have e : insN c d a b m = ⟨(opAt (c % 53).toNat).toList, (insN c d a b m).d, (insN c d a b m).a, (insN c d a b m).b, (insN c d a b m).m⟩ := rfl
  generalize (insN c d a b m).d = D at *
  generalize (insN c d a b m).a = A at *
  generalize (insN c d a b m).b = B at *
  generalize (insN c d a b m).m = M at *
  rw [e] at hmay hu hg
  obtain ⟨h1, h2⟩ := put_ok hu hg
  obtain ⟨s, d', a', b', m', hs, h3⟩ := get_ok hu hg
  simp only [MIns.mk.injEq] at hs
  obtain ⟨hs, rfl, rfl, rfl, rfl⟩ := hs
  have := bytes_ext hs
  subst this
  exact ⟨_, _, _, _, _, _, hmay, rfl, hu, hI, h1, h2, h3⟩
theorem xor_ne {X : Int} (hX : U32 X) (k : Nat) (hk : k < 32) : bits .xor .u32 X (2 ^ k) ≠ X := by
  obtain ⟨N, rfl⟩ := Int.eq_ofNat_of_zero_le hX.1
  have h1 : N < 4294967296 := by have := hX.2; omega
  have h2 : 2 ^ k < 4294967296 := Nat.pow_lt_pow_right (by omega) hk
  have e : bits .xor .u32 (N : Int) ((2 ^ k : Nat) : Int) = ((N ^^^ 2 ^ k : Nat) : Int) := u32_xor_nat N (2 ^ k) h1 h2
  have e' : ((2 ^ k : Nat) : Int) = (2 : Int) ^ k := by simp
  rw [e'] at e
  rw [e]
  intro h
  have h3 : N ^^^ 2 ^ k = N := by exact_mod_cast h
  have h4 : N ^^^ (N ^^^ 2 ^ k) = N ^^^ N := by rw [h3]
  rw [← Nat.xor_assoc, Nat.xor_self, Nat.zero_xor] at h4
  have := Nat.two_pow_pos k
  omega

theorem refuse0 {s : ByteArray} {d a b m : Int} (h : mayV ⟨s.toList, d, a, b, m⟩ = false) : (∀ w, Calls Try.prog 8 #[.agg #[.string s, .int .i64 d, .int .i64 a, .int .i64 b, .int .i32 m]] w fun e w' => e = .returned (.tuple #[.int .u32 0, .int .i64 1]) ∧ Below w.heap.size w w') ∧ True := by
  refine ⟨fun w => ?_, trivial⟩
  have := cPut s d a b m w
  unfold putN putE at this
  rw [h] at this
  exact this

set_option maxRecDepth 100000 in
set_option maxHeartbeats 8000000 in
theorem codeBack (c d a b m t o : Int) (hc : 0 ≤ c ∧ c ≤ 255) (hd : 0 ≤ d ∧ d ≤ 255) (ha : 0 ≤ a ∧ a ≤ 255) (hb : 0 ≤ b ∧ b ≤ 255) (hm : -2147483648 ≤ m ∧ m ≤ 2147483647) (ht : 0 ≤ t ∧ t ≤ 255) (ho : 0 ≤ o ∧ o ≤ 255) (w : World) :
    Calls Try.prog 4 #[.int .u8 c, .int .u8 d, .int .u8 a, .int .u8 b, .int .i32 m, .int .u8 t, .int .u8 o] w fun e w' => e = .returned (.bool true) ∧ Below w.heap.size w w' := by
  obtain ⟨S, D, A, B, M, X, hmay, hX, hU, CI', CP', CM', CG'⟩ := ins_all c d a b m hc hd ha hb hm
  obtain ⟨S2, D2, A2, B2, M2, X2, hmay2, hX2, hU2, CI2', CP2', _, _⟩ := ins_all o d a b m ho hd ha hb hm
  have CI : Hid _ := CI'
  have CP : Hid _ := CP'
  have CM : Hid _ := CM'
  have CG : Hid _ := CG'
  have CI2 : Hid _ := CI2'
  have CP2 : Hid _ := CP2'
  have E0 : Hid _ := cerr 0
  have E1 : Hid _ := cerr 1
  have E3 : Hid _ := cerr 3
  clear CI' CP' CM' CG' CI2' CP2' hc hd ha hb hm ho
  obtain ⟨t0, t1⟩ := ht
  have q0 : 0 ≤ t % 32 := by omega
  have q1 : t % 32 < 32 := by omega
  have HM : Hid (mayV ⟨S.toList, D, A, B, M⟩ = true ∧ putV ⟨S.toList, D, A, B, M⟩ = X ∧ U32 X) := ⟨hmay, hX, hU⟩
  have HM2 : Hid (mayV ⟨S2.toList, D2, A2, B2, M2⟩ = true ∧ putV ⟨S2.toList, D2, A2, B2, M2⟩ = X2 ∧ U32 X2) := ⟨hmay2, hX2, hU2⟩
  have HJ : Hid ((X2 = X ∧ S2.toList = S.toList ∧ D2 = D ∧ A2 = A ∧ B2 = B ∧ M2 = M) ∨ (X2 ≠ X ∧ ¬ (S2.toList = S.toList ∧ D2 = D ∧ A2 = A ∧ B2 = B ∧ M2 = M))) := by
    by_cases h : S2.toList = S.toList ∧ D2 = D ∧ A2 = A ∧ B2 = B ∧ M2 = M
    · refine Or.inl ⟨?_, h⟩
      obtain ⟨h1, rfl, rfl, rfl, rfl⟩ := h
      rw [← hX2, ← hX, h1]
    · refine Or.inr ⟨fun e => h ?_, h⟩
      have := put_inj hmay2 hmay (by rw [hX2, hX, e])
      simpa using this
  clear hmay hX hmay2 hX2 hU2
  obtain ⟨x0, x1⟩ := hU
  go_enter Try.func4, Try.ntmps4
  go_wp2_with fail
  refine (CI.out _).mono ?_
  rintro e w1 ⟨rfl, hb1⟩
  have i1 := alloc_at w1 (.cells #[.string S, .int .i64 D, .int .i64 A, .int .i64 B, .int .i32 M] 23)
  have H1 : Hid (Below w.heap.size w (w1.alloc (.cells #[.string S, .int .i64 D, .int .i64 A, .int .i64 B, .int .i32 M] 23))) := hb1.alloc hb1.size _
  clear hb1
  go_wp2_with fail
  generalize w1.alloc (.cells #[.string S, .int .i64 D, .int .i64 A, .int .i64 B, .int .i32 M] 23) = V1 at *
  generalize w1.heap.size = ib at *
  refine (CP.out _).mono ?_
  rintro e w2 ⟨rfl, hb2⟩
  have i2 := kept_on i1 hb2
  have H2 : Hid (Below w.heap.size w w2) := below_step H1.out hb2
  clear i1 H1 hb2
  go_wp2_with fail
  refine (CG.out _).mono ?_
  rintro e w3 ⟨rfl, hb3⟩
  have hb3' : Below w2.heap.size w2 (w3.alloc (.cells #[.string S, .int .i64 D, .int .i64 A, .int .i64 B, .int .i32 M] 23)) := hb3.alloc hb3.size _
  have i3 := kept_on i2 hb3'
  have u3 := alloc_at w3 (.cells #[.string S, .int .i64 D, .int .i64 A, .int .i64 B, .int .i32 M] 23)
  have H3 : Hid _ := below_step H2.out hb3'
  obtain ⟨ic, _, _⟩ := cells_of i3
  have ic0 := ic 0 (.string S) rfl
  have ic1 := ic 1 (.int .i64 D) rfl
  have ic2 := ic 2 (.int .i64 A) rfl
  have ic3 := ic 3 (.int .i64 B) rfl
  have ic4 := ic 4 (.int .i32 M) rfl
  clear i2 H2 hb3 hb3' ic
  go_wp2_with fail
  generalize w3.alloc (.cells #[.string S, .int .i64 D, .int .i64 A, .int .i64 B, .int .i32 M] 23) = V3 at *
  generalize w3.heap.size = ub at *
  refine (CM.out _).mono ?_
  rintro e w4 ⟨rfl, hb4⟩
  have i4 := kept_on i3 hb4
  have u4 := kept_on u3 hb4
  have H4 : Hid (Below w.heap.size w w4) := below_step H3.out hb4
  clear ic0 ic1 ic2 ic3 ic4 i3 u3 H3 hb4
  obtain ⟨ic, _, iz⟩ := cells_of i4
  obtain ⟨uc, _, _⟩ := cells_of u4
  have ic0 := ic 0 (.string S) rfl
  have ic1 := ic 1 (.int .i64 D) rfl
  have ic2 := ic 2 (.int .i64 A) rfl
  have ic3 := ic 3 (.int .i64 B) rfl
  have ic4 := ic 4 (.int .i32 M) rfl
  have uc0 := uc 0 (.string S) rfl
  have uc1 := uc 1 (.int .i64 D) rfl
  have uc2 := uc 2 (.int .i64 A) rfl
  have uc3 := uc 3 (.int .i64 B) rfl
  have uc4 := uc 4 (.int .i32 M) rfl
  clear ic uc u4
  go_wp2_with (first | (go_at_call 14; first | (refine (E0.out _).mono ?_; rintro e wq ⟨rfl, hwq⟩; rw [hwq]; clear hwq wq) | (refine (E1.out _).mono ?_; rintro e wq ⟨rfl, hwq⟩; rw [hwq]; clear hwq wq) | (refine (E3.out _).mono ?_; rintro e wq ⟨rfl, hwq⟩; rw [hwq]; clear hwq wq)))
  have hpk : (2 : Int) ^ (t % 32).toNat % 4294967296 = 2 ^ (t % 32).toNat := by
    have h1 := pow_le (u := (t % 32).toNat) (v := 31) (by omega)
    have h2 : (0 : Int) < 2 ^ (t % 32).toNat := Int.pow_pos (by omega)
    exact Int.emod_eq_of_lt (by omega) (by simp at h1; omega)
  obtain ⟨Y, hY⟩ : ∃ Y, bits .xor .u32 X (2 ^ (t % 32).toNat % 4294967296) = Y := ⟨_, rfl⟩
  have UY : U32 Y := by rw [← hY]; exact bits_u32 _ _ _
  have hne : Y ≠ X := by rw [← hY, hpk]; exact xor_ne HM.out.2.2 _ (by omega)
  rw [hY]
  clear hY hpk
  cases hg : getV Y with
  | none =>
    have CN : Hid _ := get_none3 UY hg
    obtain ⟨CZ', _⟩ := refuse0 (s := ⟨#[]⟩) (d := 0) (a := 0) (b := 0) (m := 0) (by decide +kernel)
    have CZ : Hid _ := CZ'
    clear hg CZ' UY hne
    refine (CN.out _).mono ?_
    rintro e w5 ⟨rfl, hb5⟩
    have hb5' : Below w4.heap.size w4 (w5.alloc (.cells #[.string ⟨#[]⟩, .int .i64 0, .int .i64 0, .int .i64 0, .int .i32 0] 23)) := hb5.alloc hb5.size _
    have i5 := kept_on i4 hb5'
    have H5 : Hid _ := below_step H4.out hb5'
    clear hb5 hb5' i4 H4 ic0 ic1 ic2 ic3 ic4 uc0 uc1 uc2 uc3 uc4
    go_wp2_with fail
    generalize w5.alloc (.cells #[.string ⟨#[]⟩, .int .i64 0, .int .i64 0, .int .i64 0, .int .i32 0] 23) = V5 at *
    generalize w5.heap.size = vb at *
    refine (CZ.out _).mono ?_
    rintro e w6 ⟨rfl, hb6⟩
    have i6 := kept_on i5 hb6
    have H6 : Hid (Below w.heap.size w w6) := below_step H5.out hb6
    clear i5 H5 hb6
    obtain ⟨ic, _, iz⟩ := cells_of i6
    have ic0 := ic 0 (.string S) rfl
    have ic1 := ic 1 (.int .i64 D) rfl
    have ic2 := ic 2 (.int .i64 A) rfl
    have ic3 := ic 3 (.int .i64 B) rfl
    have ic4 := ic 4 (.int .i32 M) rfl
    clear ic
    go_wp2_with (first | (go_at_call 14; first | (refine (E0.out _).mono ?_; rintro e wq ⟨rfl, hwq⟩; rw [hwq]; clear hwq wq) | (refine (E1.out _).mono ?_; rintro e wq ⟨rfl, hwq⟩; rw [hwq]; clear hwq wq) | (refine (E3.out _).mono ?_; rintro e wq ⟨rfl, hwq⟩; rw [hwq]; clear hwq wq)))
    refine (CI2.out _).mono ?_
    rintro e w7 ⟨rfl, hb7⟩
    have hb7' : Below w6.heap.size w6 (w7.alloc (.cells #[.string S2, .int .i64 D2, .int .i64 A2, .int .i64 B2, .int .i32 M2] 23)) := hb7.alloc hb7.size _
    have i7 := kept_on i6 hb7'
    have j7 := alloc_at w7 (.cells #[.string S2, .int .i64 D2, .int .i64 A2, .int .i64 B2, .int .i32 M2] 23)
    have H7 : Hid _ := below_step H6.out hb7'
    clear hb7 hb7' i6 H6 ic0 ic1 ic2 ic3 ic4
    go_wp2_with fail
    generalize w7.alloc (.cells #[.string S2, .int .i64 D2, .int .i64 A2, .int .i64 B2, .int .i32 M2] 23) = V7 at *
    generalize w7.heap.size = jb at *
    refine (CP2.out _).mono ?_
    rintro e w8 ⟨rfl, hb8⟩
    have i8 := kept_on i7 hb8
    have j8 := kept_on j7 hb8
    have H8 : Hid (Below w.heap.size w w8) := below_step H7.out hb8
    clear i7 j7 H7 hb8
    obtain ⟨ic, _, _⟩ := cells_of i8
    obtain ⟨jc, _, _⟩ := cells_of j8
    have ic0 := ic 0 (.string S) rfl
    have ic1 := ic 1 (.int .i64 D) rfl
    have ic2 := ic 2 (.int .i64 A) rfl
    have ic3 := ic 3 (.int .i64 B) rfl
    have ic4 := ic 4 (.int .i32 M) rfl
    have jc0 := jc 0 (.string S2) rfl
    have jc1 := jc 1 (.int .i64 D2) rfl
    have jc2 := jc 2 (.int .i64 A2) rfl
    have jc3 := jc 3 (.int .i64 B2) rfl
    have jc4 := jc 4 (.int .i32 M2) rfl
    clear ic jc i8 j8 HM HM2 CP CM CG CI CI2 CP2 CN CZ
    rcases HJ.out with ⟨rfl, hs, rfl, rfl, rfl, rfl⟩ | ⟨hx, hn⟩
    · have hss := bytes_ext hs
      subst hss
      clear HJ
      go_wp2_with (first | (go_at_call 14; first | (refine (E0.out _).mono ?_; rintro e wq ⟨rfl, hwq⟩; rw [hwq]; clear hwq wq) | (refine (E1.out _).mono ?_; rintro e wq ⟨rfl, hwq⟩; rw [hwq]; clear hwq wq) | (refine (E3.out _).mono ?_; rintro e wq ⟨rfl, hwq⟩; rw [hwq]; clear hwq wq)))
      refine (cawake _).mono ?_
      rintro e w9 ⟨rfl, hb9⟩
      go_wp2
      go_ret
      exact ⟨rfl, below_step H8.out hb9⟩
    · have hxb : (X2 == X) = false := by simpa using hx
      have HN : Hid _ := hn
      clear hn HJ hx
      go_wp2_with (first | (go_at_call 14; first | (refine (E0.out _).mono ?_; rintro e wq ⟨rfl, hwq⟩; rw [hwq]; clear hwq wq) | (refine (E1.out _).mono ?_; rintro e wq ⟨rfl, hwq⟩; rw [hwq]; clear hwq wq) | (refine (E3.out _).mono ?_; rintro e wq ⟨rfl, hwq⟩; rw [hwq]; clear hwq wq)))
      all_goals first
        | (refine (cawake _).mono ?_
           rintro e w9 ⟨rfl, hb9⟩
           go_wp2
           go_ret
           exact ⟨rfl, below_step H8.out hb9⟩)
        | (exact absurd ⟨by assumption, by assumption, by assumption, by assumption, by assumption⟩ HN.out)
  | some u =>
    obtain ⟨s, d', a', b', m', rfl, CN'⟩ := get_ok UY hg
    obtain ⟨CZ', _⟩ := put_ok UY hg
    obtain ⟨hu1, hu2⟩ := put_get UY.1 UY.2 hg
    have HNE : Hid (¬ (s.toList = S.toList ∧ d' = D ∧ a' = A ∧ b' = B ∧ m' = M)) := by
      rintro ⟨e1, rfl, rfl, rfl, rfl⟩
      rw [e1, HM.out.2.1] at hu2
      exact hne hu2.symm
    have CN : Hid _ := CN'
    have CZ : Hid _ := CZ'
    clear hg CN' CZ' UY hne hu1 hu2
    refine (CN.out _).mono ?_
    rintro e w5 ⟨rfl, hb5⟩
    have hb5' : Below w4.heap.size w4 (w5.alloc (.cells #[.string s, .int .i64 d', .int .i64 a', .int .i64 b', .int .i32 m'] 23)) := hb5.alloc hb5.size _
    have i5 := kept_on i4 hb5'
    have v5 := alloc_at w5 (.cells #[.string s, .int .i64 d', .int .i64 a', .int .i64 b', .int .i32 m'] 23)
    have H5 : Hid _ := below_step H4.out hb5'
    clear hb5 hb5' i4 H4 ic0 ic1 ic2 ic3 ic4 uc0 uc1 uc2 uc3 uc4
    go_wp2_with fail
    generalize w5.alloc (.cells #[.string s, .int .i64 d', .int .i64 a', .int .i64 b', .int .i32 m'] 23) = V5 at *
    generalize w5.heap.size = vb at *
    refine (CZ.out _).mono ?_
    rintro e w6 ⟨rfl, hb6⟩
    have i6 := kept_on i5 hb6
    have v6 := kept_on v5 hb6
    have H6 : Hid (Below w.heap.size w w6) := below_step H5.out hb6
    clear i5 v5 H5 hb6
    obtain ⟨ic, _, iz⟩ := cells_of i6
    obtain ⟨vc, _, _⟩ := cells_of v6
    have ic0 := ic 0 (.string S) rfl
    have ic1 := ic 1 (.int .i64 D) rfl
    have ic2 := ic 2 (.int .i64 A) rfl
    have ic3 := ic 3 (.int .i64 B) rfl
    have ic4 := ic 4 (.int .i32 M) rfl
    have vc0 := vc 0 (.string s) rfl
    have vc1 := vc 1 (.int .i64 d') rfl
    have vc2 := vc 2 (.int .i64 a') rfl
    have vc3 := vc 3 (.int .i64 b') rfl
    have vc4 := vc 4 (.int .i32 m') rfl
    clear ic vc v6
    go_wp2_with (first | (go_at_call 14; first | (refine (E0.out _).mono ?_; rintro e wq ⟨rfl, hwq⟩; rw [hwq]; clear hwq wq) | (refine (E1.out _).mono ?_; rintro e wq ⟨rfl, hwq⟩; rw [hwq]; clear hwq wq) | (refine (E3.out _).mono ?_; rintro e wq ⟨rfl, hwq⟩; rw [hwq]; clear hwq wq)))
    all_goals first
      | (exact absurd ⟨by assumption, by assumption, by assumption, by assumption, by assumption⟩ HNE.out)
      | skip
    all_goals
      clear HNE vc0 vc1 vc2 vc3 vc4
      refine (CI2.out _).mono ?_
      rintro e w7 ⟨rfl, hb7⟩
      have hb7' : Below w6.heap.size w6 (w7.alloc (.cells #[.string S2, .int .i64 D2, .int .i64 A2, .int .i64 B2, .int .i32 M2] 23)) := hb7.alloc hb7.size _
      have i7 := kept_on i6 hb7'
      have j7 := alloc_at w7 (.cells #[.string S2, .int .i64 D2, .int .i64 A2, .int .i64 B2, .int .i32 M2] 23)
      have H7 : Hid _ := below_step H6.out hb7'
      clear hb7 hb7' i6 H6 ic0 ic1 ic2 ic3 ic4
      go_wp2_with fail
      generalize w7.alloc (.cells #[.string S2, .int .i64 D2, .int .i64 A2, .int .i64 B2, .int .i32 M2] 23) = V7 at *
      generalize w7.heap.size = jb at *
      refine (CP2.out _).mono ?_
      rintro e w8 ⟨rfl, hb8⟩
      have i8 := kept_on i7 hb8
      have j8 := kept_on j7 hb8
      have H8 : Hid (Below w.heap.size w w8) := below_step H7.out hb8
      clear i7 j7 H7 hb8
      obtain ⟨ic, _, _⟩ := cells_of i8
      obtain ⟨jc, _, _⟩ := cells_of j8
      have ic0 := ic 0 (.string S) rfl
      have ic1 := ic 1 (.int .i64 D) rfl
      have ic2 := ic 2 (.int .i64 A) rfl
      have ic3 := ic 3 (.int .i64 B) rfl
      have ic4 := ic 4 (.int .i32 M) rfl
      have jc0 := jc 0 (.string S2) rfl
      have jc1 := jc 1 (.int .i64 D2) rfl
      have jc2 := jc 2 (.int .i64 A2) rfl
      have jc3 := jc 3 (.int .i64 B2) rfl
      have jc4 := jc 4 (.int .i32 M2) rfl
      clear ic jc i8 j8 HM HM2 CP CM CG CI CI2 CP2 CN CZ
      rcases HJ.out with ⟨rfl, hs, rfl, rfl, rfl, rfl⟩ | ⟨hx, hn⟩
      · have hss := bytes_ext hs
        subst hss
        clear HJ
        go_wp2_with (first | (go_at_call 14; first | (refine (E0.out _).mono ?_; rintro e wq ⟨rfl, hwq⟩; rw [hwq]; clear hwq wq) | (refine (E1.out _).mono ?_; rintro e wq ⟨rfl, hwq⟩; rw [hwq]; clear hwq wq) | (refine (E3.out _).mono ?_; rintro e wq ⟨rfl, hwq⟩; rw [hwq]; clear hwq wq)))
        refine (cawake _).mono ?_
        rintro e w9 ⟨rfl, hb9⟩
        go_wp2
        go_ret
        exact ⟨rfl, below_step H8.out hb9⟩
      · have hxb : (X2 == X) = false := by simpa using hx
        have HN : Hid _ := hn
        clear hn HJ hx
        go_wp2_with (first | (go_at_call 14; first | (refine (E0.out _).mono ?_; rintro e wq ⟨rfl, hwq⟩; rw [hwq]; clear hwq wq) | (refine (E1.out _).mono ?_; rintro e wq ⟨rfl, hwq⟩; rw [hwq]; clear hwq wq) | (refine (E3.out _).mono ?_; rintro e wq ⟨rfl, hwq⟩; rw [hwq]; clear hwq wq)))
        all_goals first
          | (refine (cawake _).mono ?_
             rintro e w9 ⟨rfl, hb9⟩
             go_wp2
             go_ret
             exact ⟨rfl, below_step H8.out hb9⟩)
          | (exact absurd ⟨by assumption, by assumption, by assumption, by assumption, by assumption⟩ HN.out)
end Go.Proofs.Ytbdfaepljgajbaa
