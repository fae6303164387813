/-
  LexNumbers: numbers, in both ways of telling them.
-/
import Derived.Test.YtjgpojjbjgdfkaaDoorLawrw10
import Derived.Test.YtjgpojjbjgdfkaaDoorLnp
import Derived.Deep.QuietTactic
import Derived.BigQuiet
namespace Go.Proofs.YtjgpojjbjgdfkaaDoor
open Go.RowKit

def strN : Value → Nat
  | .string t => t.size
  | _ => 0
theorem conv_one (W : World) (v : Int) : (convert 26 9 (.slice (some ⟨W.heap.size, 0, none⟩) 1 1)).run Tryd.prog (W.alloc (.cells #[.int .u8 v] 5)) = .ok (.string (strOfNums [v])) (W.alloc (.cells #[.int .u8 v] 5)) :=
  run_convert_bytes_arg _ 26 5 Tryd.underlying26 Tryd.underlying5 W.heap.size 0 1 1 [v] rfl (fun i hi => by
    obtain rfl : i = 0 := by omega
    exact (cells_of (alloc_at W (.cells #[.int .u8 v] 5))).1 0 _ rfl) 9 Tryd.underlying9
theorem conv_two (W : World) (o : Obj) (v : Int) : (convert 26 9 (.slice (some ⟨W.heap.size + 1, 0, none⟩) 1 1)).run Tryd.prog ((W.alloc o).alloc (.cells #[.int .u8 v] 5)) = .ok (.string (strOfNums [v])) ((W.alloc o).alloc (.cells #[.int .u8 v] 5)) := by
  have := conv_one (W.alloc o) v
  rwa [World.size_alloc] at this
def hexB : ByteArray := ⟨#[48, 49, 50, 51, 52, 53, 54, 55, 56, 57, 97, 98, 99, 100, 101, 102]⟩
theorem hexB_at {k : Nat} (h : k < hexB.size) : bHex ((hexB[k]'h).toNat : Int) = true ∧ hexD (hexB[k]'h).toNat = k := by
  have : ∀ k : Fin 16, bHex ((hexB[k.val]'k.isLt).toNat : Int) = true ∧ hexD (hexB[k.val]'k.isLt).toNat = k.val := by decide
  exact this ⟨k, h⟩
theorem hex_step {M k : Nat} {t : ByteArray} (h : DigSt 16 bHex M k t) (hk : 0 < k ∨ t.size = 0) (hm : k % 16 < hexB.size) : DigSt 16 bHex M (k / 16) (strOfNums [((hexB[k % 16]'hm).toNat : Int)] ++ t) := by
  obtain ⟨h1, h2⟩ := hexB_at hm
  have h3 := (hexB[k % 16]'hm).toNat_lt
  exact dig_step h (by decide) _ ⟨by omega, by omega⟩ h1 (by rw [Int.toNat_natCast]; exact h2) hk
theorem dig10 {k : Nat} : hexD (48 + (k : Int) % 10).toNat = k % 10 ∧ bDigit (48 + (k : Int) % 10) = true := by
  refine ⟨?_, bDigit_iff.2 (by omega)⟩
  unfold hexD
  rw [if_pos (by omega)]
  omega
theorem empty_true {t : ByteArray} (h : t.size = 0) : t.toList.isEmpty = true := by
  have h1 := Lib.size_eq t
  rw [ByteArray.toList_eq, List.isEmpty_iff, ← List.length_eq_zero_iff]
  omega
theorem empty_false {t : ByteArray} (h : t.size ≠ 0) : t.toList.isEmpty = false := by
  have h1 := Lib.size_eq t
  rw [ByteArray.toList_eq, Bool.eq_false_iff, ne_eq, List.isEmpty_iff, ← List.length_eq_zero_iff]
  omega
theorem num_one {M : Nat} {t : ByteArray} (h : DigSt 10 bDigit M 0 t) (hn : 0 < t.size) {K n : Int} {T : ByteArray} {a E : Nat} (hT : nextT t (clampV t 0) = (K, T, n, a, E)) : (M ≤ 4294967295 → K = 1 ∧ T = t ∧ n = M) ∧ (¬ M ≤ 4294967295 → (K == 1) = false) := by
  obtain ⟨E', he⟩ := num_alone h hn
  rw [hT] at he
  by_cases hm : M ≤ 4294967295
  · rw [if_pos hm] at he
    simp only [Prod.mk.injEq] at he
    exact ⟨fun _ => ⟨he.1, he.2.1, he.2.2.1⟩, fun h => absurd hm h⟩
  · rw [if_neg hm] at he
    simp only [Prod.mk.injEq] at he
    exact ⟨fun h => absurd h hm, fun _ => by rw [he.1]; rfl⟩
theorem num_three {M : Nat} {t : ByteArray} (h : DigSt 10 bDigit M 0 t) (hn : 0 < t.size) {c : Int} (hc : 0 ≤ c ∧ c ≤ 255) (hcd : bDigit c = false) {K n : Int} {T : ByteArray} {a E : Nat} (hT : nextT (t ++ strOfNums [c]) (clampV (t ++ strOfNums [c]) 0) = (K, T, n, a, E)) : K = 1 ↔ M ≤ 4294967295 ∧ bLetter c = false := by
  obtain ⟨K', T', N', A', E', he, hk⟩ := num_byte h hn hc hcd
  rw [hT] at he
  simp only [Prod.mk.injEq] at he
  rw [he.1]
  exact hk
theorem class_of {c : Int} (hd : bDigit c = false) : (97 ≤ c ∧ c ≤ 119 ∨ 121 ≤ c ∧ c ≤ 122 ∨ c = 120 ∨ 65 ≤ c ∧ c ≤ 90 ∨ c = 95) ∧ bLetter c = true ∨ (c < 48 ∨ 58 ≤ c ∧ c < 65 ∨ 91 ≤ c ∧ c < 95 ∨ c = 96 ∨ 123 ≤ c) ∧ bLetter c = false := by
  have h : ¬ (48 ≤ c ∧ c ≤ 57) := fun h => by rw [bDigit_iff.2 h] at hd; cases hd
  cases hl : bLetter c with
  | true =>
    unfold bLetter at hl
    simp at hl
    exact Or.inl ⟨by omega, rfl⟩
  | false =>
    unfold bLetter at hl
    simp at hl
    exact Or.inr ⟨by omega, rfl⟩
set_option maxRecDepth 100000 in
set_option maxHeartbeats 4000000 in
theorem lexNumbers_way (n sh c : Int) (w : World) (hn : 0 ≤ n ∧ n ≤ 18446744073709551615) (hsh : 0 ≤ sh ∧ sh ≤ 255) (hc : 0 ≤ c ∧ c ≤ 255)
    (ev : Value) (hv : w.cell? ⟨1, 0, none⟩ = some ev) (hev : ev = .nilIface ∨ ∃ te pe, ev = .iface te pe) :
    Calls Tryd.prog 6 #[.int .u64 n, .int .u8 sh, .int .u8 c] w fun e w' => e = .returned (.bool true) ∧ Below w.heap.size w w' := by
  have hlt : 1 < w.heap.size := Lib.lt_of_cell hv
  have HV : Hid (∀ W, Below w.heap.size w W → W.cell? ⟨1, 0, none⟩ = some ev) := fun W hb => (hb.cell (p := ⟨1, 0, none⟩) hlt).trans hv
  have HE : Hid _ := hev
  have HC : Hid _ := hc
  clear hv hev hlt hc
  go_enter Tryd.func6, Tryd.ntmps6
  obtain ⟨n0, n1⟩ := hn
  obtain ⟨s0, s1⟩ := hsh
  obtain ⟨z, hz⟩ : ∃ z, sh.tmod 40 = z := ⟨_, rfl⟩
  have z0 : 0 ≤ z := by rw [← hz]; exact Int.tmod_nonneg _ s0
  have z1 : z < 40 := by rw [← hz]; exact Int.tmod_lt_of_pos _ (by omega)
  go_wp2_with fail
  obtain ⟨M, hM⟩ : ∃ M : Nat, n / 2 ^ z.toNat = (M : Int) := ⟨(n / 2 ^ z.toNat).toNat, (Int.toNat_of_nonneg (Int.ediv_nonneg n0 (by exact Int.pow_nonneg (by decide)))).symm⟩
  have hM2 : M ≤ 18446744073709551615 := by
    have := Int.ediv_le_self (2 ^ z.toNat) n0
    omega
  rw [hM]
  clear hM hz z0 z1 n0 n1 s0 s1
  have m0 : (0 : Int) ≤ (M : Int) := by omega
  have m1 : (M : Int) ≤ 18446744073709551615 := by omega
  go_loopw [9, 10] (fun y x wr => ∃ (t : ByteArray) (k : Nat), y = .string t ∧ x = .int .u64 k ∧ Hid (DigSt 10 bDigit M k t) ∧ k ≤ M ∧ Hid (Below w.heap.size w wr)) (fun y x _ => 2 * (intOf x).toNat + (1 - strN y))
  case atStart => exact ⟨⟨#[]⟩, M, rfl, rfl, dig_none hM2, Nat.le_refl _, Below.refl _ _⟩
  case round =>
    obtain ⟨t, k, rfl, rfl, hD, hkM, hB⟩ := hrel
    have HD : Hid _ := hD
    clear hD
    have k0 : (0 : Int) ≤ (k : Int) := by omega
    have k1 : (k : Int) ≤ 18446744073709551615 := by omega
    have hsm : ¬ 9223372036854775807 < (strOfNums [48 + (k : Int) % 10]).size + t.size := by
      have := HD.out.small
      rw [one_size]
      omega
    by_cases hgo : 0 < k ∨ t.size = 0
    · have HN : Hid (DigSt 10 bDigit M (k / 10) (strOfNums [48 + (k : Int) % 10] ++ t)) := dig_step HD.out (by decide) _ (by omega) dig10.2 dig10.1 hgo
      by_cases hk : 0 < k
      · have k2 : (0 : Int) < (k : Int) := by omega
        go_wp2_with (rw [conv_one])
        exact ⟨⟨_, k / 10, rfl, by go_num, HN, by omega, hB.out.alloc hB.out.size _⟩, by simp [intOf, strN, one_size]; omega⟩
      · have hts : t.size = 0 := by omega
        have ht := empty_true hts
        have hk0 : k = 0 := by omega
        subst hk0
        have hb := hB.out.alloc hB.out.size (.cells #[.int .u8 48] 5)
        go_wp2_with (rw [conv_one])
        exact ⟨⟨_, 0, rfl, rfl, HN, by omega, hb⟩, by simp [intOf, strN, one_size, hts]⟩
    · have hk0 : k = 0 := by omega
      have hts : t.size ≠ 0 := by omega
      have ht := empty_false hts
      subst hk0
      clear hgo hsm k0 k1
      go_wp2_with fail
      rw [show ((0 : Nat) : Int) = 0 from rfl]
      have HT : Hid (DigSt 10 bDigit M 0 t ∧ 0 < t.size) := ⟨HD.out, by omega⟩
      clear HD hts ht hkM
      go_loopw [8, 11] (fun y x wr => ∃ (u : ByteArray) (k : Nat), y = .string u ∧ x = .int .u64 k ∧ Hid (DigSt 16 bHex M k u) ∧ k ≤ M ∧ Hid (Below w.heap.size w wr)) (fun y x _ => 2 * (intOf x).toNat + (1 - strN y))
      case atStart => exact ⟨⟨#[]⟩, M, rfl, rfl, dig_none hM2, Nat.le_refl _, hB⟩
      case round =>
        clear hB
        obtain ⟨u, k, rfl, rfl, hD, hkM, hB⟩ := hrel
        have HD : Hid _ := hD
        clear hD
        have k0 : (0 : Int) ≤ (k : Int) := by omega
        have k1 : (k : Int) ≤ 18446744073709551615 := by omega
        have k3 : (k : Int) % 16 < 16 := by omega
        have k4 : 0 ≤ (k : Int) % 16 := by omega
        by_cases hgo : 0 < k ∨ u.size = 0
        · have hm : k % 16 < hexB.size := Nat.mod_lt _ (by decide)
          have HN : Hid (DigSt 16 bHex M (k / 16) (strOfNums [((hexB[k % 16]'hm).toNat : Int)] ++ u)) := hex_step HD.out hgo hm
          have hsm : ¬ 9223372036854775807 < (strOfNums [((hexB[k % 16]'hm).toNat : Int)]).size + u.size := by
            have := HD.out.small
            rw [one_size]
            omega
          by_cases hk : 0 < k
          · have k2 : (0 : Int) < (k : Int) := by omega
            go_wp2_with (rw [conv_one])
            exact ⟨⟨_, k / 16, rfl, by go_num, HN, by omega, hB.out.alloc hB.out.size _⟩, by simp [intOf, strN, one_size]; omega⟩
          · have hts : u.size = 0 := by omega
            have ht := empty_true hts
            have hk0 : k = 0 := by omega
            subst hk0
            have hb := hB.out.alloc hB.out.size (.cells #[.int .u8 48] 5)
            go_wp2_with (rw [conv_one])
            exact ⟨⟨_, 0, rfl, rfl, HN, by omega, hb⟩, by simp [intOf, strN, one_size, hts]⟩
        · have hk0 : k = 0 := by omega
          have hts : u.size ≠ 0 := by omega
          have ht := empty_false hts
          subst hk0
          have HU : Hid (DigSt 16 bHex M 0 u ∧ 0 < u.size) := ⟨HD.out, by omega⟩
          obtain ⟨K1, T1, N1, A1, E1, hT1⟩ : ∃ K x n a E, nextT t (clampV t 0) = (K, x, n, a, E) := ⟨_, _, _, _, _, rfl⟩
          have F1 : Hid ((M ≤ 4294967295 → K1 = 1 ∧ T1 = t ∧ N1 = M) ∧ (¬ M ≤ 4294967295 → (K1 == 1) = false)) := num_one HT.out.1 HT.out.2 hT1
          obtain ⟨K2, T2, N2, A2, E2, hT2, f2, f3⟩ := num_hex HU.out.1 HU.out.2
          have F2 : Hid ((M ≤ 4294967295 → K2 = 1 ∧ N2 = M) ∧ (¬ M ≤ 4294967295 → (K2 == 1) = false)) := ⟨fun h => ⟨f2.2 h, f3 h⟩, fun h => by rw [beq_eq_false_iff_ne]; exact fun h' => h (f2.1 h')⟩
          obtain ⟨K3, T3, N3, A3, E3, hT3⟩ : ∃ K t' n a E, nextT (t ++ strOfNums [c]) (clampV (t ++ strOfNums [c]) 0) = (K, t', n, a, E) := ⟨_, _, _, _, _, rfl⟩
          have F3 : Hid (bDigit c = false → (K3 = 1 ↔ M ≤ 4294967295 ∧ bLetter c = false)) := fun h => num_three HT.out.1 HT.out.2 HC.out h hT3
          have hs1 : t.size ≤ 64 := HT.out.1.small
          have hs2 : u.size ≤ 64 := HU.out.1.small
          have C1 : Hid _ := lNextF (w := wr) (S := t) (by omega) 0 ev (HV.out _ hB.out) HE.out hT1
          have C2 : Hid (∀ W, Below w.heap.size w W → Calls Tryd.prog 16 #[.string ((⟨#[48, 120]⟩ ++ u) ++ ⟨#[32]⟩), .int .i64 0] W fun e w' => e = .returned (.tuple #[.agg (tokC K2 T2 N2 A2), .int .i64 E2]) ∧ Below W.heap.size W w') := fun W hb =>
            lNextF (w := W) (by rw [add_size, add_size]; show 2 + u.size + 1 ≤ _; omega) 0 ev (HV.out _ hb) HE.out hT2
          have C3 : Hid (∀ W, Below w.heap.size w W → Calls Tryd.prog 16 #[.string (t ++ strOfNums [c]), .int .i64 0] W fun e w' => e = .returned (.tuple #[.agg (tokC K3 T3 N3 A3), .int .i64 E3]) ∧ Below W.heap.size W w') := fun W hb =>
            lNextF (w := W) (by rw [add_size, one_size]; omega) 0 ev (HV.out _ hb) HE.out hT3
          have q1 : ¬ 9223372036854775807 < (ByteArray.mk #[48, 120]).size + u.size := by show ¬ _ < 2 + u.size; omega
          have q2 : ¬ 9223372036854775807 < (ByteArray.mk #[48, 120] ++ u).size + (ByteArray.mk #[32]).size := by rw [add_size]; show ¬ _ < 2 + u.size + 1; omega
          have q3 : ¬ 9223372036854775807 < t.size + (strOfNums [c]).size := by rw [one_size]; omega
          clear hgo k0 k1 k3 k4 hT1 hT2 hT3 f2 f3 HT HU hts HD hkM hs1 hs2
          go_wp2_with fail
          refine Calls.mono C1.out ?_
          rintro e w2 ⟨rfl, b2⟩
          have B2 : Hid (Below w.heap.size w w2) := hB.out.trans (b2.mono hB.out.size)
          clear b2 C1 hB
          unfold tokC
          go_wp2_with fail
          obtain ⟨V1, hV1⟩ : ∃ V1, V1 = w2.alloc (.cells (tokC K1 T1 N1 A1) 33) := ⟨_, rfl⟩
          have BV1 : Hid (Below w.heap.size w V1) := by rw [hV1]; exact B2.out.alloc B2.out.size _
          have KA1 : Hid (V1.heap[w2.heap.size]? = some (.cells (tokC K1 T1 N1 A1) 33)) := by rw [hV1]; exact alloc_at _ _
          unfold tokC at hV1
          rw [← hV1]
          clear hV1 B2
          refine Calls.mono (C2.out _ BV1.out) ?_
          rintro e w3 ⟨rfl, b3⟩
          have KA2 : Hid (w3.heap[w2.heap.size]? = some (.cells (tokC K1 T1 N1 A1) 33)) := kept_on KA1.out b3
          have B3 : Hid (Below w.heap.size w w3) := BV1.out.trans (b3.mono BV1.out.size)
          clear b3 C2 KA1 BV1
          unfold tokC
          go_wp2_with (rw [conv_two])
          obtain ⟨V2, hV2⟩ : ∃ V2, V2 = (w3.alloc (.cells (tokC K2 T2 N2 A2) 33)).alloc (.cells #[.int .u8 c] 5) := ⟨_, rfl⟩
          have b32 : Below w3.heap.size w3 V2 := by rw [hV2]; exact box2
          have BV2 : Hid (Below w.heap.size w V2) := B3.out.trans (b32.mono B3.out.size)
          have KB1 : Hid (V2.heap[w2.heap.size]? = some (.cells (tokC K1 T1 N1 A1) 33)) := kept_on KA2.out b32
          have KB2 : Hid (V2.heap[w3.heap.size]? = some (.cells (tokC K2 T2 N2 A2) 33)) := by rw [hV2]; exact kept_on (alloc_at _ _) ((Below.refl _ _).alloc (Nat.le_refl _) _)
          unfold tokC at hV2
          rw [← hV2]
          clear hV2 b32 KA2 B3
          refine Calls.mono (C3.out _ BV2.out) ?_
          rintro e w4 ⟨rfl, b4⟩
          have b5 : Below V2.heap.size V2 (w4.alloc (.cells (tokC K3 T3 N3 A3) 33)) := b4.alloc b4.size _
          obtain ⟨V3, hV3⟩ : ∃ V3, V3 = w4.alloc (.cells (tokC K3 T3 N3 A3) 33) := ⟨_, rfl⟩
          rw [← hV3] at b5
          obtain ⟨x1, x2, x3, -, -, -, -, -⟩ := tok_at (kept_on KB1.out b5)
          obtain ⟨y1, -, y3, -, -, -, -, -⟩ := tok_at (kept_on KB2.out b5)
          obtain ⟨z1, -, -, -, -, -, -, -⟩ := tok_at (show V3.heap[w4.heap.size]? = some (.cells (tokC K3 T3 N3 A3) 33) by rw [hV3]; exact alloc_at _ _)
          have B5 : Hid (Below w.heap.size w V3) := BV2.out.trans (b5.mono BV2.out.size)
          clear b4 b5 C3 KB1 KB2 BV2
          unfold tokC at hV3 ⊢
          have A5 : Hid (Calls Tryd.prog 8 #[] V3 fun e w' => e = .returned (.bool true) ∧ Below w.heap.size w w') := (tAwake ev (HV.out _ B5.out) HE.out).mono fun e w' ⟨h1, h2⟩ => ⟨h1, B5.out.trans (h2.mono B5.out.size)⟩
          obtain ⟨c0, c1⟩ := HC.out
          clear HV HE B5 q1 q2 q3
          subst hV3
          have ew : IntKind.u64.wrap (M : Int) = (M : Int) := by
            rw [IntKind.wrap_u64]
            omega
          have fin : (48 ≤ c ∧ c ≤ 57) ∨ bDigit c = false := by
            cases hd : bDigit c with
            | true => exact Or.inl (bDigit_iff.1 hd)
            | false => exact Or.inr rfl
          rcases fin with ⟨d0, d1⟩ | hd
          · by_cases hf : M ≤ 4294967295
            · have hf' : (M : Int) < 4294967296 := by omega
              go_wp2_with fail
              refine Calls.mono A5.out ?_
              rintro e w6 ⟨rfl, b6⟩
              go_wp2
              go_ret
              exact ⟨rfl, b6⟩
            · have hf' : ¬ (M : Int) < 4294967296 := by omega
              go_wp2_with fail
              refine Calls.mono A5.out ?_
              rintro e w6 ⟨rfl, b6⟩
              go_wp2
              go_ret
              exact ⟨rfl, b6⟩
          · have hcl : (97 ≤ c ∧ c ≤ 119 ∨ 121 ≤ c ∧ c ≤ 122 ∨ c = 120 ∨ 65 ≤ c ∧ c ≤ 90 ∨ c = 95) ∧ bLetter c = true ∨ (c < 48 ∨ 58 ≤ c ∧ c < 65 ∨ 91 ≤ c ∧ c < 95 ∨ c = 96 ∨ 123 ≤ c) ∧ bLetter c = false := class_of hd
            by_cases hf : M ≤ 4294967295
            · have hf' : decide ((M : Int) < 4294967296) = true := decide_eq_true (by omega)
              clear m0 m1
              obtain ⟨rfl, rfl, rfl⟩ := F1.out.1 hf
              obtain ⟨rfl, rfl⟩ := F2.out.1 hf
              rcases hcl with ⟨hcl, hl⟩ | ⟨hcl, hl⟩
              · have hK : (K3 == 1) = false := by
                  rw [beq_eq_false_iff_ne]
                  intro h
                  have := ((F3.out hd).1 h).2
                  rw [hl] at this
                  cases this
                clear F1 F2 F3 hd hl hf hM2
                rcases hcl with ⟨d0, d1⟩ | ⟨d0, d1⟩ | rfl | ⟨d0, d1⟩ | rfl
                · have e1 : decide (97 ≤ c) = true := decide_eq_true (by omega)
                  have e2 : decide (c ≤ 122) = true := decide_eq_true (by omega)
                  have e6 : (c == 120) = false := by rw [beq_eq_false_iff_ne]; omega
                  have e7 : decide (48 ≤ c) = true := decide_eq_true (by omega)
                  have e8 : decide (c ≤ 57) = false := decide_eq_false (by omega)
                  clear d0 d1 c0 c1
                  go_wp2_with fail
                  refine Calls.mono A5.out ?_
                  rintro e w6 ⟨rfl, b6⟩
                  go_wp2
                  go_ret
                  exact ⟨rfl, b6⟩
                · have e1 : decide (97 ≤ c) = true := decide_eq_true (by omega)
                  have e2 : decide (c ≤ 122) = true := decide_eq_true (by omega)
                  have e6 : (c == 120) = false := by rw [beq_eq_false_iff_ne]; omega
                  have e7 : decide (48 ≤ c) = true := decide_eq_true (by omega)
                  have e8 : decide (c ≤ 57) = false := decide_eq_false (by omega)
                  clear d0 d1 c0 c1
                  go_wp2_with fail
                  refine Calls.mono A5.out ?_
                  rintro e w6 ⟨rfl, b6⟩
                  go_wp2
                  go_ret
                  exact ⟨rfl, b6⟩
                · cases he : (T1.toList == [48])
                  all_goals
                    (go_wp2_with fail
                     refine Calls.mono A5.out ?_
                     rintro e w6 ⟨rfl, b6⟩
                     go_wp2
                     go_ret
                     exact ⟨rfl, b6⟩)
                · have e1 : decide (97 ≤ c) = false := decide_eq_false (by omega)
                  have e3 : decide (65 ≤ c) = true := decide_eq_true (by omega)
                  have e4 : decide (c ≤ 90) = true := decide_eq_true (by omega)
                  have e6 : (c == 120) = false := by rw [beq_eq_false_iff_ne]; omega
                  have e7 : decide (48 ≤ c) = true := decide_eq_true (by omega)
                  have e8 : decide (c ≤ 57) = false := decide_eq_false (by omega)
                  clear d0 d1 c0 c1
                  go_wp2_with fail
                  refine Calls.mono A5.out ?_
                  rintro e w6 ⟨rfl, b6⟩
                  go_wp2
                  go_ret
                  exact ⟨rfl, b6⟩
                · go_wp2_with fail
                  refine Calls.mono A5.out ?_
                  rintro e w6 ⟨rfl, b6⟩
                  go_wp2
                  go_ret
                  exact ⟨rfl, b6⟩
              · have hK : K3 = 1 := (F3.out hd).2 ⟨hf, hl⟩
                subst hK
                clear F1 F2 F3 hd hl hf hM2
                rcases hcl with d0 | ⟨d0, d1⟩ | ⟨d0, d1⟩ | rfl | d0
                · have e7 : decide (48 ≤ c) = false := decide_eq_false (by omega)
                  have e1 : decide (97 ≤ c) = false := decide_eq_false (by omega)
                  have e3 : decide (65 ≤ c) = false := decide_eq_false (by omega)
                  have e5 : (c == 95) = false := by rw [beq_eq_false_iff_ne]; omega
                  have e6 : (c == 120) = false := by rw [beq_eq_false_iff_ne]; omega
                  clear d0 c0 c1
                  go_wp2_with fail
                  refine Calls.mono A5.out ?_
                  rintro e w6 ⟨rfl, b6⟩
                  go_wp2
                  go_ret
                  exact ⟨rfl, b6⟩
                · have e7 : decide (48 ≤ c) = true := decide_eq_true (by omega)
                  have e8 : decide (c ≤ 57) = false := decide_eq_false (by omega)
                  have e1 : decide (97 ≤ c) = false := decide_eq_false (by omega)
                  have e3 : decide (65 ≤ c) = false := decide_eq_false (by omega)
                  have e5 : (c == 95) = false := by rw [beq_eq_false_iff_ne]; omega
                  have e6 : (c == 120) = false := by rw [beq_eq_false_iff_ne]; omega
                  clear d0 d1 c0 c1
                  go_wp2_with fail
                  refine Calls.mono A5.out ?_
                  rintro e w6 ⟨rfl, b6⟩
                  go_wp2
                  go_ret
                  exact ⟨rfl, b6⟩
                · have e7 : decide (48 ≤ c) = true := decide_eq_true (by omega)
                  have e8 : decide (c ≤ 57) = false := decide_eq_false (by omega)
                  have e1 : decide (97 ≤ c) = false := decide_eq_false (by omega)
                  have e3 : decide (65 ≤ c) = true := decide_eq_true (by omega)
                  have e4 : decide (c ≤ 90) = false := decide_eq_false (by omega)
                  have e5 : (c == 95) = false := by rw [beq_eq_false_iff_ne]; omega
                  have e6 : (c == 120) = false := by rw [beq_eq_false_iff_ne]; omega
                  clear d0 d1 c0 c1
                  go_wp2_with fail
                  refine Calls.mono A5.out ?_
                  rintro e w6 ⟨rfl, b6⟩
                  go_wp2
                  go_ret
                  exact ⟨rfl, b6⟩
                · go_wp2_with fail
                  refine Calls.mono A5.out ?_
                  rintro e w6 ⟨rfl, b6⟩
                  go_wp2
                  go_ret
                  exact ⟨rfl, b6⟩
                · have e7 : decide (48 ≤ c) = true := decide_eq_true (by omega)
                  have e8 : decide (c ≤ 57) = false := decide_eq_false (by omega)
                  have e1 : decide (97 ≤ c) = true := decide_eq_true (by omega)
                  have e2 : decide (c ≤ 122) = false := decide_eq_false (by omega)
                  have e3 : decide (65 ≤ c) = true := decide_eq_true (by omega)
                  have e4 : decide (c ≤ 90) = false := decide_eq_false (by omega)
                  have e5 : (c == 95) = false := by rw [beq_eq_false_iff_ne]; omega
                  have e6 : (c == 120) = false := by rw [beq_eq_false_iff_ne]; omega
                  clear d0 c0 c1
                  go_wp2_with fail
                  refine Calls.mono A5.out ?_
                  rintro e w6 ⟨rfl, b6⟩
                  go_wp2
                  go_ret
                  exact ⟨rfl, b6⟩
            · have hf' : decide ((M : Int) < 4294967296) = false := decide_eq_false (by omega)
              clear m0 m1 hM2
              have hK1 := F1.out.2 hf
              have hK2 := F2.out.2 hf
              have hK : (K3 == 1) = false := by
                rw [beq_eq_false_iff_ne]
                exact fun h => hf ((F3.out hd).1 h).1
              clear F1 F2 F3 hd hf
              rcases hcl with ⟨hcl, hl⟩ | ⟨hcl, hl⟩
              · clear hl
                rcases hcl with ⟨d0, d1⟩ | ⟨d0, d1⟩ | rfl | ⟨d0, d1⟩ | rfl
                · have e1 : decide (97 ≤ c) = true := decide_eq_true (by omega)
                  have e2 : decide (c ≤ 122) = true := decide_eq_true (by omega)
                  have e6 : (c == 120) = false := by rw [beq_eq_false_iff_ne]; omega
                  have e7 : decide (48 ≤ c) = true := decide_eq_true (by omega)
                  have e8 : decide (c ≤ 57) = false := decide_eq_false (by omega)
                  clear d0 d1 c0 c1
                  go_wp2_with fail
                  refine Calls.mono A5.out ?_
                  rintro e w6 ⟨rfl, b6⟩
                  go_wp2
                  go_ret
                  exact ⟨rfl, b6⟩
                · have e1 : decide (97 ≤ c) = true := decide_eq_true (by omega)
                  have e2 : decide (c ≤ 122) = true := decide_eq_true (by omega)
                  have e6 : (c == 120) = false := by rw [beq_eq_false_iff_ne]; omega
                  have e7 : decide (48 ≤ c) = true := decide_eq_true (by omega)
                  have e8 : decide (c ≤ 57) = false := decide_eq_false (by omega)
                  clear d0 d1 c0 c1
                  go_wp2_with fail
                  refine Calls.mono A5.out ?_
                  rintro e w6 ⟨rfl, b6⟩
                  go_wp2
                  go_ret
                  exact ⟨rfl, b6⟩
                · cases he : (t.toList == [48])
                  all_goals
                    (go_wp2_with fail
                     refine Calls.mono A5.out ?_
                     rintro e w6 ⟨rfl, b6⟩
                     go_wp2
                     go_ret
                     exact ⟨rfl, b6⟩)
                · have e1 : decide (97 ≤ c) = false := decide_eq_false (by omega)
                  have e3 : decide (65 ≤ c) = true := decide_eq_true (by omega)
                  have e4 : decide (c ≤ 90) = true := decide_eq_true (by omega)
                  have e6 : (c == 120) = false := by rw [beq_eq_false_iff_ne]; omega
                  have e7 : decide (48 ≤ c) = true := decide_eq_true (by omega)
                  have e8 : decide (c ≤ 57) = false := decide_eq_false (by omega)
                  clear d0 d1 c0 c1
                  go_wp2_with fail
                  refine Calls.mono A5.out ?_
                  rintro e w6 ⟨rfl, b6⟩
                  go_wp2
                  go_ret
                  exact ⟨rfl, b6⟩
                · go_wp2_with fail
                  refine Calls.mono A5.out ?_
                  rintro e w6 ⟨rfl, b6⟩
                  go_wp2
                  go_ret
                  exact ⟨rfl, b6⟩
              · clear hl
                rcases hcl with d0 | ⟨d0, d1⟩ | ⟨d0, d1⟩ | rfl | d0
                · have e7 : decide (48 ≤ c) = false := decide_eq_false (by omega)
                  have e1 : decide (97 ≤ c) = false := decide_eq_false (by omega)
                  have e3 : decide (65 ≤ c) = false := decide_eq_false (by omega)
                  have e5 : (c == 95) = false := by rw [beq_eq_false_iff_ne]; omega
                  have e6 : (c == 120) = false := by rw [beq_eq_false_iff_ne]; omega
                  clear d0 c0 c1
                  go_wp2_with fail
                  refine Calls.mono A5.out ?_
                  rintro e w6 ⟨rfl, b6⟩
                  go_wp2
                  go_ret
                  exact ⟨rfl, b6⟩
                · have e7 : decide (48 ≤ c) = true := decide_eq_true (by omega)
                  have e8 : decide (c ≤ 57) = false := decide_eq_false (by omega)
                  have e1 : decide (97 ≤ c) = false := decide_eq_false (by omega)
                  have e3 : decide (65 ≤ c) = false := decide_eq_false (by omega)
                  have e5 : (c == 95) = false := by rw [beq_eq_false_iff_ne]; omega
                  have e6 : (c == 120) = false := by rw [beq_eq_false_iff_ne]; omega
                  clear d0 d1 c0 c1
                  go_wp2_with fail
                  refine Calls.mono A5.out ?_
                  rintro e w6 ⟨rfl, b6⟩
                  go_wp2
                  go_ret
                  exact ⟨rfl, b6⟩
                · have e7 : decide (48 ≤ c) = true := decide_eq_true (by omega)
                  have e8 : decide (c ≤ 57) = false := decide_eq_false (by omega)
                  have e1 : decide (97 ≤ c) = false := decide_eq_false (by omega)
                  have e3 : decide (65 ≤ c) = true := decide_eq_true (by omega)
                  have e4 : decide (c ≤ 90) = false := decide_eq_false (by omega)
                  have e5 : (c == 95) = false := by rw [beq_eq_false_iff_ne]; omega
                  have e6 : (c == 120) = false := by rw [beq_eq_false_iff_ne]; omega
                  clear d0 d1 c0 c1
                  go_wp2_with fail
                  refine Calls.mono A5.out ?_
                  rintro e w6 ⟨rfl, b6⟩
                  go_wp2
                  go_ret
                  exact ⟨rfl, b6⟩
                · go_wp2_with fail
                  refine Calls.mono A5.out ?_
                  rintro e w6 ⟨rfl, b6⟩
                  go_wp2
                  go_ret
                  exact ⟨rfl, b6⟩
                · have e7 : decide (48 ≤ c) = true := decide_eq_true (by omega)
                  have e8 : decide (c ≤ 57) = false := decide_eq_false (by omega)
                  have e1 : decide (97 ≤ c) = true := decide_eq_true (by omega)
                  have e2 : decide (c ≤ 122) = false := decide_eq_false (by omega)
                  have e3 : decide (65 ≤ c) = true := decide_eq_true (by omega)
                  have e4 : decide (c ≤ 90) = false := decide_eq_false (by omega)
                  have e5 : (c == 95) = false := by rw [beq_eq_false_iff_ne]; omega
                  have e6 : (c == 120) = false := by rw [beq_eq_false_iff_ne]; omega
                  clear d0 c0 c1
                  go_wp2_with fail
                  refine Calls.mono A5.out ?_
                  rintro e w6 ⟨rfl, b6⟩
                  go_wp2
                  go_ret
                  exact ⟨rfl, b6⟩
end Go.Proofs.YtjgpojjbjgdfkaaDoor
