/-
  AsmWrong.
-/
import Derived.Test.YtpjnefnngmlpjaaAsx
import Derived.StillTailTactics
namespace Go.Proofs.Ytpjnefnngmlpjaa
open Go.RowKit

/-- The loop's row of words items. -/
structure LoopW (w V : World) (v : Value) (ws : List It) (k : Nat) : Prop where
  len : ws.length = k
  all : ∀ x ∈ ws, ∃ g, x = wIt g
  own : V.ownsRow w.heap.size 34 9 v k (irow ws)
  low : Below w.heap.size w V
theorem own_low {B n : Nat} {w w2 w3 : World} {t : TypeId} {sz : Nat} {v : Value} {xs : List Value} (h : w2.ownsRow B t sz v n xs) (hb : Below B w w2) (hB : B ≤ w2.heap.size) (hg : w2.grownBy w3 v.ownBlock) : Below B w w3 := by
  cases hov : v.ownBlock with
  | none => exact below_grown (b := B) hb ⟨hg.os, hg.tape, hg.output, hg.size, fun k hk _ => hg.block k hk (by rw [hov]; simp)⟩ hB (Nat.le_refl _)
  | some k =>
    rw [hov] at hg
    exact below_grown hb hg hB (owns_lt h k hov).1
theorem irow_app (xs ys : List It) : irow (xs ++ ys) = irow xs ++ irow ys := by
  induction xs with
  | nil => rfl
  | cons a l ih => simp [irow, ih]
theorem its_new (w : World) (xs : List It) : ItsAt (w.alloc (.cells (irow xs).toArray 34)) w.heap.size 0 (some ⟨w.heap.size, 0, none⟩) xs :=
  ⟨fun _ => ⟨rfl, by rw [World.size_alloc]; omega⟩, fun i x hx j v hv => by
    have := irow_at xs i x j v hx hv
    have h2 := (cells_of (alloc_at w (.cells (irow xs).toArray 34))).1 (i * 9 + j) v (by rw [List.getElem?_toArray]; exact this)
    rw [show 0 + i * 9 + j = i * 9 + j by omega]
    exact h2⟩
def badL (n : Int) : List It := [badI n 0, badI n 1, badI n 2, badI n 3, badI n 4, badI n 5, badI n 6, badI n 7, badI n 8, badI n 9]
theorem badL_at (n : Int) (j : Nat) (h : j < 10) : (badL n)[j]? = some (badI n j) := by
  match j, h with
  | 0, _ => rfl
  | 1, _ => rfl
  | 2, _ => rfl
  | 3, _ => rfl
  | 4, _ => rfl
  | 5, _ => rfl
  | 6, _ => rfl
  | 7, _ => rfl
  | 8, _ => rfl
  | 9, _ => rfl
theorem wp_world {P : Program} {ops : Array Oper} {Q : Exit → Act → World → Prop} {l : List Oper} {a : Act} {W W' : World} (e : W = W') (h : wpList P ops Q l a W) : wpList P ops Q l a W' := e ▸ h
def twiceA : Array Value := #[.int .i64 1, .string ⟨#[120]⟩, .string ⟨#[]⟩, .int .i64 0, .int .i64 0, .int .i64 0, .int .i32 0, .int .u32 0, .slice none 0 0, .int .i64 7, .string ⟨#[]⟩, .string ⟨#[]⟩, .int .i64 0, .int .i64 0, .int .i64 0, .int .i32 0, .int .u32 0, .slice none 0 0, .int .i64 1, .string ⟨#[120]⟩, .string ⟨#[]⟩, .int .i64 0, .int .i64 0, .int .i64 0, .int .i32 0, .int .u32 0, .slice none 0 0]
theorem twiceA_eq : (irow twiceL).toArray = twiceA := rfl
theorem twiceA_len : twiceL.length = 3 := rfl
theorem asmTwice (w : World) : Calls Try.prog 13 #[.int .u32 0, .slice (some ⟨w.heap.size, 0, none⟩) 3 3] (w.alloc (.cells twiceA 34)) fun e w' => e = .returned (.tuple #[.slice none 0 0, .slice none 0 0, .int .i64 2, .int .i64 6]) ∧ Below w.heap.size w w' := by
  have h := aAsmW (cap := 3) (base := 0) (its_new w twiceL) (by rw [twiceA_len]; omega) twice_ok (by decide) ⟨by omega, by omega⟩ (fun r at' er h => by rw [(twice_told h).2]; decide)
  rw [twiceA_len, twiceA_eq] at h
  refine h.mono ?_
  rintro e w7 ⟨r, at', er, hwr, rfl, b7⟩
  obtain ⟨rfl, rfl⟩ := twice_told hwr
  exact ⟨rfl, below_first b7⟩
def esA : Array Value := #[.int .i64 6, .int .i64 6, .int .i64 1, .int .i64 1, .int .i64 1, .int .i64 9, .int .i64 1, .int .i64 6, .int .i64 1, .int .i64 1]
theorem esA_at (j : Nat) (h : j < 10) : esA[j]? = some (.int .i64 (badE j)) := by
  match j, h with
  | 0, _ => rfl
  | 1, _ => rfl
  | 2, _ => rfl
  | 3, _ => rfl
  | 4, _ => rfl
  | 5, _ => rfl
  | 6, _ => rfl
  | 7, _ => rfl
  | 8, _ => rfl
  | 9, _ => rfl
set_option maxRecDepth 100000 in
set_option maxHeartbeats 4000000 in
theorem asmWrong (wh n odd : Int) (h0 : 0 ≤ wh) (h1 : wh ≤ 255) (h2 : 0 ≤ n) (h3 : n ≤ 255) (ho : U32 odd) (w : World) :
    Calls Try.prog 7 #[.int .u8 wh, .int .u8 n, .int .u32 odd] w fun e w' => e = .returned (.bool true) ∧ Below w.heap.size w w' := by
  obtain ⟨i0, hi0, hz0, hz1, hz2⟩ := info_parts infoItm
  obtain ⟨K, hK⟩ : ∃ K : Nat, (K : Int) = n % 5 := ⟨(n % 5).toNat, by omega⟩
  have hK4 : K ≤ 4 := by omega
  have tk : n.tmod 5 = (K : Int) := by rw [Int.tmod_eq_emod_of_nonneg h2, hK]
  obtain ⟨j, hj⟩ : ∃ j : Nat, (j : Int) = wh % 10 := ⟨(wh % 10).toNat, by omega⟩
  have hj9 : j < 10 := by omega
  have tj : wh.tmod 10 = (j : Int) := by rw [Int.tmod_eq_emod_of_nonneg h0, hj]
  have w64 : ∀ x : Int, 0 ≤ x → x ≤ 255 → IntKind.i64.wrap x = x := fun x a b => by rw [IntKind.wrap_i64]; omega
  have wn := w64 n h2 h3
  have wwh := w64 wh h0 h1
  have wk : IntKind.i64.wrap (K : Int) = K := w64 _ (by omega) (by omega)
  have wj : IntKind.i64.wrap (j : Int) = j := w64 _ (by omega) (by omega)
  obtain ⟨N, hN⟩ : ∃ N : Int, N = 65536 + odd % 2147483648 := ⟨_, rfl⟩
  have hN0 : 65536 ≤ N := by omega
  have hN1 : N < 2147549184 := by omega
  have ho0 := ho.1
  have ho1 := ho.2
  have tN : (65536 + odd.tmod 2147483648) % 4294967296 = N := by rw [Int.tmod_eq_emod_of_nonneg ho0]; omega
  have tN2 : 65536 + odd % 2147483648 = N := by omega
  have tP0 : odd.tdiv 4 = odd / 4 := Int.tdiv_eq_ediv_of_nonneg ho0
  have tP1 : odd / 4 % 4294967296 = odd / 4 := by omega
  obtain ⟨P, hP⟩ : ∃ P : Int, P = odd / 4 * 4 := ⟨_, rfl⟩
  have tP2 : odd / 4 * 4 % 4294967296 = P := by omega
  have tP3 : (1 + P) % 4294967296 = 1 + P := by omega
  have HP4 : Hid ((1 + P) % 4 ≠ 0) := (by omega : (1 + P) % 4 ≠ 0)
  have HPU : Hid (U32 (1 + P)) := (⟨by omega, by omega⟩ : U32 (1 + P))
  have HN0 : Hid (65536 ≤ N) := hN0
  have HN1 : Hid (N < 2147549184) := hN1
  clear w64 hK hj hN hP hN0 hN1 ho0 ho1 ho
  go_enter Try.func7, Try.ntmps7
  go_wp2_with fail
  go_loopw [8, 9] (fun l i wr => ∃ (k : Nat) (v : Value) (ws : List It) (V : World), V = wr ∧ k ≤ K ∧ i = .int .i64 k ∧ v = l ∧ Hid (LoopW w V v ws k)) (fun _ i _ => K - (intOf i).toNat)
  case atStart => exact ⟨0, _, [], w, rfl, Nat.zero_le _, rfl, rfl, ⟨rfl, fun x hx => (by cases hx), ⟨rfl, Or.inl ⟨rfl, rfl⟩⟩, Below.refl _ _⟩⟩
  case round =>
    obtain ⟨k, v, ws, V, rfl, hk, rfl, rfl, hr⟩ := hrel
    by_cases hlt : k < K
    · have hki : (k : Int) < (K : Int) := by omega
      have hsz : w.heap.size ≤ V.heap.size := hr.out.low.size
      have B2 : Hid (Below w.heap.size w ((V.alloc (.cells #[.int .u32 1] 22)).alloc (.cells (wIt V.heap.size).cells 34))) := (hr.out.low.alloc hsz _).alloc (by rw [World.size_alloc]; omega) _
      have N2 : Hid (((V.alloc (.cells #[.int .u32 1] 22)).alloc (.cells (wIt V.heap.size).cells 34)).heap[V.heap.size + 1]? = some (.cells (wIt V.heap.size).cells 34)) := by
        have := alloc_at (V.alloc (.cells #[.int .u32 1] 22)) (.cells (wIt V.heap.size).cells 34)
        rw [World.size_alloc] at this
        exact this
      go_wp2_with (at_builtin; refine wpList_append_own_at _ rfl (.tmp 33) (.tmp 36) 23 rfl w.heap.size 34 i0 _ 9 104 Try.underlying23 hi0 hz0 hz1 hz2 rfl (by decide) v k (irow ws) rfl ((hr.out.own.alloc _).alloc _) ⟨V.heap.size + 1, 0, none⟩ 1 1 (wIt V.heap.size).cells.toList rfl rfl ?_ ?_ (by unfold maxLen; omega) (by omega) (by rw [World.size_alloc, World.size_alloc]; omega) ?_)
      · intro a u hu
        rw [show (⟨V.heap.size + 1, 0, none⟩ : Addr).add a = ⟨V.heap.size + 1, a, none⟩ by rw [Addr.add_lit]; simp]
        exact (cells_of N2.out).1 a u (by rw [← Array.getElem?_toList]; exact hu)
      · intro u hu
        have := It.one (wIt V.heap.size)
        rw [Array.all_eq_true'] at this
        exact this u (by simpa using hu)
      · intro v' w3 hown hg _ _
        have L3 : Hid (LoopW w w3 v' (ws ++ [wIt V.heap.size]) (k + 1)) := ⟨by rw [List.length_append, hr.out.len]; rfl, fun x hx => by
          rcases List.mem_append.1 hx with h | h
          · exact hr.out.all x h
          · exact ⟨_, by simpa using h⟩, by rw [irow_more]; exact hown, own_low ((hr.out.own.alloc _).alloc _) B2.out B2.out.size hg⟩
        clear hown hg B2 N2 hr
        go_wp2
        exact ⟨⟨k + 1, v', _, w3, rfl, hlt, by go_num, rfl, L3⟩, by simp [intOf]; omega⟩
    · have hkK : k = K := by omega
      subst hkK
      have HKl : Hid (ws.length = k) := hr.out.len
      obtain ⟨fi, hfi⟩ := undIt
      have HFI : Hid _ := hfi
      clear hfi hlt hk tk
      obtain ⟨x, hx⟩ : ∃ x, x = badI N j := ⟨_, rfl⟩
      have HX : Hid (x = badI N j) := hx
      obtain ⟨W2, hW2⟩ : ∃ W2, W2 = (V.alloc (.cells (irow (badL N)).toArray 34)).alloc (.cells esA 3) := ⟨_, rfl⟩
      have A1 : Below V.heap.size V (V.alloc (.cells (irow (badL N)).toArray 34)) := (Below.refl _ _).alloc (Nat.le_refl _) _
      have A2 : Below (V.alloc (.cells (irow (badL N)).toArray 34)).heap.size (V.alloc (.cells (irow (badL N)).toArray 34)) W2 := by rw [hW2]; exact (Below.refl _ _).alloc (Nat.le_refl _) _
      have B2 : Hid (Below w.heap.size w W2) := below_step (below_step hr.out.low A1) A2
      have R2 : Hid (W2.rangeAt V.heap.size (j * 9) x.cells.toList) := by
        have h1 := ((its_new V (badL N)).below A2).row j x (by rw [hx]; exact badL_at N j hj9)
        rw [Nat.zero_add] at h1
        exact h1
      have S2 : Hid (W2.heap.size = V.heap.size + 2) := by show W2.heap.size = V.heap.size + 2; rw [hW2, World.size_alloc, World.size_alloc]
      have E2 : Hid (W2.heap[V.heap.size + 1]? = some (.cells esA 3)) := by
        have := alloc_at (V.alloc (.cells (irow (badL N)).toArray 34)) (.cells esA 3)
        rw [World.size_alloc] at this
        rw [hW2]
        exact this
      have O2 : Hid (W2.ownsRow w.heap.size 34 9 v k (irow ws)) := by rw [hW2]; exact (hr.out.own.alloc _).alloc _
      have OL : Hid (∀ b, v.ownBlock = some b → b < V.heap.size) := fun b hb => (owns_lt hr.out.own b hb).2
      have HALL : Hid (∀ x ∈ ws, ∃ g, x = wIt g) := hr.out.all
      have HW2 : Hid (W2 = _) := hW2
      clear hW2 A1 A2 hr hx
      by_cases hN6 : j = 5 ∧ k = 0 ∧ N = 65536
      · have q5 : ((j : Int) == 5) = true := by simp [hN6.1]
        have qK : ((k : Int) == 0) = true := by simp [hN6.2.1]
        have qN : (N == 65536) = true := by simp [hN6.2.2]
        clear hN6
        go_wp2_with fail
        refine (aawake _).mono ?_
        rintro e w8 ⟨rfl, b8⟩
        have b9 : Below w.heap.size w w8 := by
          have := B2.out
          rw [HW2.out] at this
          exact below_step this b8
        have B9 : Hid _ := b9
        clear b8 b9
        go_wp2
        go_ret
        exact ⟨rfl, B9.out⟩
      · have H5 : Hid (j = 5 → 65536 < (ws.length : Int) + N) := fun e => by
          have := HN0.out
          rw [HKl.out]
          omega
        have q : ((j : Int) == 5) = false ∨ (((j : Int) == 5) = true ∧ ((k : Int) == 0) = false) ∨ (((j : Int) == 5) = true ∧ ((k : Int) == 0) = true ∧ (N == 65536) = false) := by
          by_cases e1 : j = 5
          · by_cases e2 : k = 0
            · have e3 : N ≠ 65536 := fun e => hN6 ⟨e1, e2, e⟩
              exact .inr (.inr ⟨by simp [e1], by simp [e2], by simp [e3]⟩)
            · exact .inr (.inl ⟨by simp [e1], by simp; omega⟩)
          · exact .inl (by simp; omega)
        clear hN6
        rcases x with ⟨kd, nm, op, d1, a1, b1, m1, n1, wa, wl, wc⟩
        obtain ⟨W3, hW3⟩ : ∃ W3, W3 = W2.alloc (.cells (irow [⟨kd, nm, op, d1, a1, b1, m1, n1, wa, wl, wc⟩, labX]).toArray 34) := ⟨_, rfl⟩
        have HW3 : Hid _ := hW3
        have S3 : Hid (W3.heap.size = V.heap.size + 3) := by show W3.heap.size = V.heap.size + 3; rw [hW3, World.size_alloc, S2.out]
        have A3 : Below W2.heap.size W2 W3 := by rw [hW3]; exact (Below.refl _ _).alloc (Nat.le_refl _) _
        have B3 : Hid (Below w.heap.size w W3) := below_step B2.out A3
        have E3 : Hid (W3.heap[V.heap.size + 1]? = some (.cells esA 3)) := kept_on E2.out A3
        have O3 : Hid (W3.ownsRow w.heap.size 34 9 v k (irow ws)) := by rw [hW3]; exact O2.out.alloc _
        have N3 : Hid (W3.heap[W2.heap.size]? = some (.cells (irow [⟨kd, nm, op, d1, a1, b1, m1, n1, wa, wl, wc⟩, labX]).toArray 34)) := by
          have := alloc_at W2 (.cells (irow [⟨kd, nm, op, d1, a1, b1, m1, n1, wa, wl, wc⟩, labX]).toArray 34)
          rw [hW3]
          exact this
        have NW : Hid (∀ a u, (irow [⟨kd, nm, op, d1, a1, b1, m1, n1, wa, wl, wc⟩, labX])[a]? = some u → W3.cell? ((⟨W2.heap.size, 0, none⟩ : Addr).add a) = some u) := fun a u hu => by
          rw [show (⟨W2.heap.size, 0, none⟩ : Addr).add a = ⟨W2.heap.size, a, none⟩ by rw [Addr.add_lit]; simp]
          exact (cells_of N3.out).1 a u (by rw [List.getElem?_toArray]; exact hu)
        have N1 : Hid (∀ u ∈ irow [⟨kd, nm, op, d1, a1, b1, m1, n1, wa, wl, wc⟩, labX], u.oneCell' = true) := fun u hu => by
          simp only [irow, It.cells, labX, List.append_nil, List.cons_append, List.nil_append, List.mem_cons, List.not_mem_nil, or_false] at hu
          rcases hu with rfl | rfl | rfl | rfl | rfl | rfl | rfl | rfl | rfl | rfl | rfl | rfl | rfl | rfl | rfl | rfl | rfl | rfl <;> rfl
        have hbz : w.heap.size ≤ W3.heap.size := B3.out.size
        have HBZ : Hid (w.heap.size ≤ W3.heap.size) := hbz
        clear hbz hW3 A3 B2 E2 O2 N3
        rcases q with q5 | ⟨q5, qK⟩ | ⟨q5, qK, qN⟩
        all_goals
          go_wp2_with (first | (refine wp_world HW2.out ?_; refine wpList_mids (by rfl) 34 (.tmp 81) rfl V.heap.size (j * 9) rfl #[.int .i64 kd, .string nm, .string op, .int .i64 d1, .int .i64 a1, .int .i64 b1, .int .i32 m1, .int .u32 n1, .slice wa wl wc] _ R2.out HFI.out rfl infoIt ?_) | (at_builtin; refine wp_world HW3.out ?_; refine wpList_append_own_at _ rfl (.tmp 78) (.tmp 84) 23 rfl w.heap.size 34 i0 _ 9 104 Try.underlying23 hi0 hz0 hz1 hz2 rfl (by decide) v k (irow ws) rfl O3.out ⟨W2.heap.size, 0, none⟩ 2 2 (irow [⟨kd, nm, op, d1, a1, b1, m1, n1, wa, wl, wc⟩, labX]) rfl rfl NW.out N1.out (by unfold maxLen; omega) (by omega) HBZ.out ?_))
          intro v' w4 hown hg _ _
          obtain ⟨L, hL⟩ : ∃ L, L = ws ++ [⟨kd, nm, op, d1, a1, b1, m1, n1, wa, wl, wc⟩, labX] := ⟨_, rfl⟩
          have hLl : L.length = k + 2 := by rw [hL, List.length_append, HKl.out]; rfl
          have hown' : w4.ownsRow w.heap.size 34 9 v' L.length (irow L) := by
            rw [hLl, hL, irow_app]
            exact hown
          obtain ⟨b, sa, cap, rfl, its⟩ := its_own hown'
          have B4 : Hid (Below w.heap.size w w4) := own_low O3.out B3.out HBZ.out hg
          have E4 : Hid (w4.heap[V.heap.size + 1]? = some (.cells esA 3)) := by
            show w4.heap[V.heap.size + 1]? = some (.cells esA 3)
            rw [hg.block _ (by rw [S3.out]; omega) (fun e => by have := OL.out _ e.symm; omega)]
            exact E3.out
          have RW : Hid (RowW ws L N j) := ⟨by rw [HKl.out]; omega, HALL.out, by rw [hL, HX.out], hj9, HN0.out, HN1.out⟩
          have IT : Hid _ := its
          have HLl : Hid (L.length = k + 2) := hLl
          clear hown hown' hg hL hLl its NW N1 O3 E3 B3 S3 S2 HW2 HW3 R2 HX OL HBZ
          go_wp2_with fail
          refine Calls.mono (aAsmW IT.out (by rw [HLl.out]; omega) RW.out.ok rfl ⟨by omega, by omega⟩ (fun r at' er h => by have := RW.out.told H5.out h; rw [this.2]; exact badE_ne j)) ?_
          rintro e w5 ⟨r, at', er, hwr, rfl, b5⟩
          have hat : at' = (k : Int) := by rw [(RW.out.told H5.out hwr).1, HKl.out]
          have her : er = badE j := (RW.out.told H5.out hwr).2
          subst hat her
          have E5 : Hid _ := kept_on E4.out b5
          have B5 : Hid _ := below_step B4.out b5
          clear b5 hwr E4 B4 RW IT
          go_wp2_with fail
          refine Calls.mono (aAsm0 HP4.out HPU.out) ?_
          rintro e w6 ⟨rfl, hw6⟩
          rw [hw6]
          clear hw6 w6
          go_wp2_with fail
          have CT : Hid _ := asmTwice w5
          unfold twiceA at CT
          refine Calls.mono CT.out ?_
          rintro e w7 ⟨rfl, b7⟩
          have B7 : Hid (Below w.heap.size w w7) := below_step B5.out b7
          have c7 : w7.cell? ⟨V.heap.size + 1, j, none⟩ = some (.int .i64 (badE j)) := (cells_of (kept_on E5.out b7)).1 j _ (esA_at j hj9)
          have hm : Try.prog.follows .mixedOrders = true := by kernel_rfl
          have hj0 : (j : Int) < 10 := by omega
          clear b7 E5 B5 H5 HLl CT
          generalize badE j = E at *
          generalize V.heap.size + 1 = eb at *
          go_wp2_with fail
          refine region_tail 39 hm (by kernel_rfl) ?_
          simp only [List.take_succ_cons, List.take_zero, List.drop_succ_cons, List.drop_zero]
          still_step
          still_step
          still_step
          still_step
          still_step
          still_step
          still_step
          still_step
          still_step
          still_step
          still_step
          still_step
          still_step
          still_call (errA _ _)
          still_step
          still_step
          still_step
          still_step
          still_step
          still_step
          still_step
          still_step
          still_step
          still_step
          still_step
          still_step
          still_call (errA _ _)
          still_step
          still_step
          still_step
          still_step
          still_step
          still_step
          still_step
          still_step
          still_call (errA _ _)
          still_step
          still_step
          still_step
          refine wpStill_nil ?_
          go_wp2_with fail
          refine (aawake _).mono ?_
          rintro e w8 ⟨rfl, b8⟩
          go_wp2
          go_ret
          exact ⟨rfl, below_step B7.out.drew b8⟩
end Go.Proofs.Ytpjnefnngmlpjaa
