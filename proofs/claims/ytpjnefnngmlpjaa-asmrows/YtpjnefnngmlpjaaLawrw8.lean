/-
  AsmRows.
-/
import Derived.Test.YtpjnefnngmlpjaaAsz1
import Derived.StillTailTactics
import Derived.Deep.QuietTactic
import Derived.BigQuiet
import Derived.OpenShut
namespace Go.Proofs.Ytpjnefnngmlpjaa
open Go.RowKit

structure RowsW (w V : World) (lv wv av : Value) (xs : List It) (gf : Nat → Nat) (kn : Nat → Obj → Prop) (zs : Nat → Int) (b x : Int) (m : Nat) : Prop where
  row : RowR xs zs gf m
  tri : Tri w.heap.size w V lv wv av xs (wantL zs x m) (atL zs x b m) kn
  all : ∀ i, i < m → zs i % 3 = 0 → kn (gf i) (.cells #[.int .u32 x, .int .u32 (zs i)] 22)
theorem wantL_few {xs : List It} {zs : Nat → Int} {gf : Nat → Nat} {m : Nat} (h : RowR xs zs gf m) (x : Int) : (wantL zs x m).length ≤ 270 := by
  have h1 := (h.sum x m (Nat.le_refl _)).1
  have h2 := (h.sum x m (Nat.le_refl _)).2.2
  have := h.few
  omega
theorem own_cells {V : World} {B n : Nat} {v : Value} {l : List Int} (h : V.ownsRow B 22 1 v n (wrow l)) (hn : n = l.length) :
    ∃ sa cp g, v = .slice sa n cp ∧ (0 < n → sa = some ⟨g, 0, none⟩ ∧ g < V.heap.size) ∧ ∀ i y, l[i]? = some y → V.cell? ⟨g, i, none⟩ = some (.int .u32 y) := by
  subst hn
  have h' := h
  obtain ⟨_, ⟨e, e0⟩ | ⟨g, cp, cur, e1, e2, e3, _⟩⟩ := h
  · refine ⟨none, 0, 0, by rw [e, e0], fun h => by omega, fun i y hy => ?_⟩
    have := (List.getElem?_eq_some_iff.1 hy).1
    omega
  · subst e1
    refine ⟨_, cp, g, rfl, fun _ => ⟨rfl, (Array.getElem?_eq_some_iff.1 e3).1⟩, fun i y hy => ?_⟩
    have := h'.cells (g := g) rfl i (.int .u32 y) (by simp [wrow, hy])
    rw [Addr.add_lit] at this
    simpa using this
theorem srow_at : ∀ (l : List (ByteArray × Int)) (i : Nat) (p : ByteArray × Int), l[i]? = some p → (srow l)[i * 2]? = some (.string p.1) ∧ (srow l)[i * 2 + 1]? = some (.int .u32 p.2)
  | [], _, _, h => by cases h
  | a :: l, 0, p, h => by
    cases h
    exact ⟨rfl, rfl⟩
  | a :: l, i + 1, p, h => by
    have := srow_at l i p h
    show ([Value.string a.1, Value.int .u32 a.2] ++ srow l)[(i + 1) * 2]? = _ ∧ ([Value.string a.1, Value.int .u32 a.2] ++ srow l)[(i + 1) * 2 + 1]? = _
    rw [List.getElem?_append_right (by simp; omega), List.getElem?_append_right (by simp; omega)]
    simp only [List.length_cons, List.length_nil]
    rw [show (i + 1) * 2 - (0 + 1 + 1) = i * 2 by omega, show (i + 1) * 2 + 1 - (0 + 1 + 1) = i * 2 + 1 by omega]
    exact this
theorem own_syms {V : World} {B n : Nat} {v : Value} {l : List (ByteArray × Int)} (h : V.ownsRow B 59 2 v n (srow l)) (hn : n = l.length) :
    ∃ sa cp g, v = .slice sa n cp ∧ (0 < n → sa = some ⟨g, 0, none⟩ ∧ g < V.heap.size) ∧ ∀ i p, l[i]? = some p → V.cell? ⟨g, i * 2, none⟩ = some (.string p.1) ∧ V.cell? ⟨g, i * 2 + 1, none⟩ = some (.int .u32 p.2) := by
  subst hn
  have h' := h
  obtain ⟨_, ⟨e, e0⟩ | ⟨g, cp, cur, e1, e2, e3, _⟩⟩ := h
  · refine ⟨none, 0, 0, by rw [e, e0], fun h => by omega, fun i y hy => ?_⟩
    have := (List.getElem?_eq_some_iff.1 hy).1
    omega
  · subst e1
    refine ⟨_, cp, g, rfl, fun _ => ⟨rfl, (Array.getElem?_eq_some_iff.1 e3).1⟩, fun i p hp => ?_⟩
    have h1 := h'.cells (g := g) rfl (i * 2) _ (srow_at l i p hp).1
    have h2 := h'.cells (g := g) rfl (i * 2 + 1) _ (srow_at l i p hp).2
    rw [Addr.add_lit] at h1 h2
    exact ⟨by simpa using h1, by simpa using h2⟩
theorem cells_there {V : World} {B n cp : Nat} {sa : Option Addr} {l : List Int} (h : V.ownsRow B 22 1 (.slice sa n cp) n (wrow l)) (hn : n = l.length) : ∃ g, (0 < n → sa = some ⟨g, 0, none⟩ ∧ g < V.heap.size) ∧ ∀ i y, l[i]? = some y → V.cell? ⟨g, i, none⟩ = some (.int .u32 y) := by
  obtain ⟨sb, cb, g, e, h1, h2⟩ := own_cells h hn
  cases e
  exact ⟨g, h1, h2⟩
theorem syms_there {V : World} {B n cp : Nat} {sa : Option Addr} {l : List (ByteArray × Int)} (h : V.ownsRow B 59 2 (.slice sa n cp) n (srow l)) (hn : n = l.length) : ∃ g, (0 < n → sa = some ⟨g, 0, none⟩ ∧ g < V.heap.size) ∧ ∀ i p, l[i]? = some p → V.cell? ⟨g, i * 2, none⟩ = some (.string p.1) ∧ V.cell? ⟨g, i * 2 + 1, none⟩ = some (.int .u32 p.2) := by
  obtain ⟨sb, cb, g, e, h1, h2⟩ := own_syms h hn
  cases e
  exact ⟨g, h1, h2⟩
set_option maxHeartbeats 1000000 in
theorem wSame {V : World} {B B' n : Nat} {va vb : Value} {l : List Int} (h1 : V.ownsRow B 22 1 va n (wrow l)) (h2 : V.ownsRow B' 22 1 vb n (wrow l)) (hn : n = l.length) (hl : n ≤ 1000000000) :
    Calls Try.prog 18 #[va, vb] V fun e w' => e = .returned (.bool true) ∧ Below V.heap.size V w' := by
  obtain ⟨sa, ca, ga, rfl, a1, a2⟩ := own_cells h1 hn
  obtain ⟨sb, cb, gb, rfl, b1, b2⟩ := own_cells h2 hn
  have HA1 : Hid _ := a1
  have HA2 : Hid _ := a2
  have HB1 : Hid _ := b1
  have HB2 : Hid _ := b2
  have HN : Hid (n = l.length) := hn
  clear h1 h2 a1 a2 b1 b2 hn
  go_enter Try.func18, Try.ntmps18
  go_wp2_with fail
  go_loopw [5] (fun i wr => ∃ (k : Nat) (W : World), W = wr ∧ k ≤ n ∧ i = .int .i64 k ∧ Hid (Below V.heap.size V W)) (fun i _ => n - (intOf i).toNat)
  case atStart => exact ⟨0, _, rfl, Nat.zero_le _, rfl, Below.refl _ _⟩
  case round =>
    obtain ⟨k, W, rfl, hk, rfl, hbr⟩ := hrel
    by_cases hlt : k < n
    · obtain ⟨y, hy⟩ : ∃ y, l[k]? = some y := ⟨_, List.getElem?_eq_getElem (by rw [← HN.out]; exact hlt)⟩
      obtain ⟨ea, la⟩ := HA1.out (by omega)
      obtain ⟨eb, lb⟩ := HB1.out (by omega)
      subst ea eb
      have d0 : W.cell? ⟨ga, k, none⟩ = some (.int .u32 y) := by rw [hbr.out.cell (p := ⟨ga, k, none⟩) la]; exact HA2.out k y hy
      have d1 : W.cell? ⟨gb, k, none⟩ = some (.int .u32 y) := by rw [hbr.out.cell (p := ⟨gb, k, none⟩) lb]; exact HB2.out k y hy
      clear la lb hy
      go_wp2_with fail
      go_region
      go_wp2_with fail
      exact ⟨⟨k + 1, _, rfl, hlt, by go_num, hbr.out.drew⟩, by simp [intOf]; omega⟩
    · have hkn : k = n := by omega
      subst hkn
      go_wp2
      go_ret
      exact ⟨rfl, hbr.out⟩
theorem atV_more (zs : Nat → Int) (x b i2 : Int) (i : Nat) (h : i2 = (b + 64) % 4294967296) : atV zs x i2 i = (atV zs x b i + 64) % 4294967296 := by
  subst h
  unfold atV addrV
  omega
theorem rows_step {w V : World} {l v a : Value} {xs : List It} {gf : Nat → Nat} {kn : Nat → Obj → Prop} {zs : Nat → Int} {b x y z : Int} {k g : Nat} {nm : ByteArray} {ps : List Int} (RR : RowR xs zs gf k) (hk : k < 30) (hz : zs k = z) (hz0 : 0 ≤ z ∧ z < 256) (hnm : nmL k = nm) (hy : atV zs x b k = y) (hp : pieceL z x = ps)
    (T : Tri w.heap.size w V l v a (xs ++ [labI nm] ++ [rowI z g]) (wantL zs x k ++ ps) (atL zs x b k ++ [y]) kn) (hall : ∀ i, i < k → zs i % 3 = 0 → kn (gf i) (.cells #[.int .u32 x, .int .u32 (zs i)] 22)) (hg : z % 3 = 0 → kn g (.cells #[.int .u32 x, .int .u32 z] 22)) :
    RowsW w V l v a (xs ++ [labI nm] ++ [rowI z g]) (fun i => if i = k then g else gf i) kn zs b x (k + 1) := by
  subst hz hnm hy hp
  refine ⟨?_, T, fun i hi h3 => ?_⟩
  · have := RR.more (gf' := fun i => if i = k then g else gf i) hk hz0 (fun i hi => if_neg (by omega))
    rw [if_pos rfl] at this
    rw [List.append_assoc]
    exact this
  · by_cases e : i = k
    · subst e
      rw [if_pos rfl]
      exact hg h3
    · rw [if_neg e]
      exact hall i (by omega) h3
set_option maxRecDepth 100000 in
set_option maxHeartbeats 4000000 in
theorem asmRows_way (sa : Option Addr) (b0 off n cap : Nat) (base x : Int) (zs : Nat → Int) (hb : U32 base) (hx : U32 x) (w : World) (hm : n ≤ maxLen) (ha : 0 < n → sa = some ⟨b0, off, none⟩ ∧ b0 < w.heap.size) (hc : ∀ i, i < n → w.cell? ⟨b0, off + i, none⟩ = some (.int .u8 (zs i))) (hz : ∀ i, 0 ≤ zs i ∧ zs i < 256) :
    Calls Try.prog 8 #[.slice sa n cap, .int .u32 base, .int .u32 x] w fun e w' => e = .returned (.bool true) ∧ Below w.heap.size w w' := by
  obtain ⟨b, hb4⟩ : ∃ b : Int, b = base / 4 * 4 := ⟨_, rfl⟩
  have hb0 := hb.1
  have hb1 := hb.2
  have tb1 : base.tdiv 4 = base / 4 := Int.tdiv_eq_ediv_of_nonneg hb0
  have tb2 : base / 4 % 4294967296 = base / 4 := by omega
  have tb3 : base / 4 * 4 % 4294967296 = b := by omega
  have tb4 : base / 4 * 4 = b := hb4.symm
  have HB0 : Hid (b % 4 = 0 ∧ 0 ≤ b ∧ b < 4294967296) := by
    show b % 4 = 0 ∧ 0 ≤ b ∧ b < 4294967296
    omega
  have HX : Hid _ := hx
  have HA : Hid _ := ha
  have HC : Hid _ := hc
  have HZ : Hid _ := hz
  unfold maxLen at hm
  clear hb hx ha hc hz hb4 hb0 hb1
  go_enter Try.func8, Try.ntmps8
  go_wp2_with fail
  go_loopw [7, 8, 9, 11] (fun lv wv av i wr => ∃ (k : Nat) (l v a : Value) (V : World) (xs : List It) (gf : Nat → Nat) (kn : Nat → Obj → Prop), V = wr ∧ k ≤ n ∧ k ≤ 30 ∧ i = .int .i64 k ∧ l = lv ∧ v = wv ∧ a = av ∧ Hid (RowsW w V l v a xs gf kn zs b x k)) (fun _ _ _ i _ => 30 - (intOf i).toNat)
  case atStart => exact ⟨0, _, _, _, w, [], fun _ => 0, fun _ _ => False, rfl, Nat.zero_le _, Nat.zero_le _, rfl, rfl, rfl, rfl, RowR.zero _ _, ⟨Below.refl _ _, Nat.le_refl _, ⟨rfl, Or.inl ⟨rfl, rfl⟩⟩, ⟨rfl, Or.inl ⟨rfl, rfl⟩⟩, ⟨rfl, Or.inl ⟨rfl, rfl⟩⟩, fun k hk => (by cases hk), fun k hk => (by cases hk), fun k hk => (by cases hk), fun g ob hg => hg.elim⟩, fun i hi => by omega⟩
  case round =>
    obtain ⟨k, l, v, a, V, xs, gf, kn, rfl, hkn, hk, rfl, rfl, rfl, rfl, hr⟩ := hrel
    by_cases hlt : k < n ∧ k < 30
    · have hki : (k : Int) < (n : Int) := by omega
      have hk30 : (k : Int) < 30 := by omega
      have k0 : (0 : Int) ≤ (k : Int) := by omega
      have hkl : k < 30 := hlt.2
      have h27 : Hid _ := wantL_few hr.out.row x
      have HL : Hid (xs.length = 2 * k) := hr.out.row.len
      have HAL : Hid ((atL zs x b k).length = k) := atL_len zs x b k
      have T0 : Hid _ := hr.out.tri
      have RR : Hid _ := hr.out.row
      have KN : Hid _ := hr.out.all
      obtain ⟨ea, hb0⟩ := HA.out (by omega)
      subst ea
      have HBL : Hid (b0 < w.heap.size) := hb0
      obtain ⟨S, hS⟩ : ∃ S, S = strOfNums [97 + (k : Int) % 26, 97 + (k : Int) / 26] := ⟨_, rfl⟩
      have hnm : nmL k = ⟨#[108]⟩ ++ S := by rw [hS]; rfl
      have HNM : Hid _ := hnm
      have hss : S.size = 2 := by rw [hS]; rfl
      have hconv : (convert 27 9 (.slice (some ⟨V.heap.size, 0, none⟩) 2 2)).run Try.prog (V.alloc (.cells #[.int .u8 (97 + (k : Int) % 26), .int .u8 (97 + (k : Int) / 26)] 5)) = .ok (.string S) (V.alloc (.cells #[.int .u8 (97 + (k : Int) % 26), .int .u8 (97 + (k : Int) / 26)] 5)) := by
        rw [hS]
        refine run_convert_bytes_arg _ 27 5 Try.underlying27 Try.underlying5 V.heap.size 0 2 2 [97 + (k : Int) % 26, 97 + (k : Int) / 26] rfl (fun i hi => ?_) 9 Try.underlying9
        rw [Nat.zero_add]
        refine (cells_of (alloc_at V _)).1 i _ ?_
        match i, hi with
        | 0, _ => rfl
        | 1, _ => rfl
      obtain ⟨sw, cw, rfl⟩ := own_slice hr.out.tri.ow
      obtain ⟨sl, cl, rfl⟩ := own_slice hr.out.tri.ol
      obtain ⟨sq, cq, rfl⟩ := own_slice hr.out.tri.oa
      obtain ⟨l1, V3, r1, T3⟩ := (T0.out.alloc (.cells #[.int .u8 (97 + (k : Int) % 26), .int .u8 (97 + (k : Int) / 26)] 5)).item 23 (labI (⟨#[108]⟩ ++ S)) (by rw [HL.out]; omega)
      rw [World.size_alloc] at r1
      have R1 : Hid _ := r1
      obtain ⟨a1, V5, r2, T5⟩ := T3.place 32 ((b + 4 * ((wantL zs x k).length : Int)) % 4294967296) (by rw [HAL.out]; omega)
      have R2 : Hid _ := r2
      have T5h : Hid _ := T5
      have HAT : Hid (atV zs x b k = (b + 4 * ((wantL zs x k).length : Int)) % 4294967296) := by
        have := h27.out
        show addrV b _ = _
        unfold addrV
        omega
      obtain ⟨z, hzz⟩ : ∃ z, z = zs k := ⟨_, rfl⟩
      have HZZ : Hid (z = zs k) := hzz
      have hz0 : 0 ≤ z := by rw [hzz]; exact (HZ.out k).1
      have hz1 : z < 256 := by rw [hzz]; exact (HZ.out k).2
      have CZ : Hid (∀ V', Below w.heap.size w V' → V'.cell? ⟨b0, off + k, none⟩ = some (.int .u8 z)) := fun V' hb' => by
        rw [hb'.cell (p := ⟨b0, off + k, none⟩) HBL.out, hzz]
        exact HC.out k (by omega)
      have cz5 : V5.cell? ⟨b0, off + k, none⟩ = some (.int .u8 z) := CZ.out _ T5h.out.low
      have b5 : b0 < V5.heap.size := Nat.lt_of_lt_of_le HBL.out T5h.out.hB
      clear hS hnm hlt hb0 hr r1 r2 T3 T5 hzz
      have h28 : (wantL zs x k).length ≤ 270 := h27.out
      have hzm : z % 3 = 0 ∨ z % 3 = 1 ∨ z % 3 = 2 := by omega
      rcases hzm with hzm | hzm | hzm
      · obtain ⟨l2, V8, r3, T8⟩ := (T5h.out.know (.cells #[.int .u32 x, .int .u32 z] 22)).item 23 (rowI z V5.heap.size) (by rw [List.length_append, HL.out]; show 2 * k + 1 ≤ _; omega)
        rw [World.size_alloc, show (rowI z V5.heap.size).cells = #[.int .i64 7, .string ⟨#[]⟩, .string ⟨#[]⟩, .int .i64 0, .int .i64 0, .int .i64 0, .int .i32 0, .int .u32 0, .slice (some ⟨V5.heap.size, 0, none⟩) 2 2] by unfold rowI; rw [if_pos hzm]; rfl] at r3
        obtain ⟨v2, V9, r4, T9⟩ := T8.words 32 [x, z] 2 rfl (by have := h27.out; simp; omega)
        have R3 : Hid _ := r3
        have R4 : Hid _ := r4
        have cz8 : V8.cell? ⟨b0, off + k, none⟩ = some (.int .u8 z) := CZ.out _ T8.low
        have RW : Hid _ := rows_step RR.out hkl HZZ.out.symm ⟨hz0, hz1⟩ HNM.out HAT.out (ps := [x, z]) (by unfold pieceL; rw [if_pos hzm]) T9 (fun i hi h3 => .inl (KN.out i hi h3)) (fun _ => .inr ⟨rfl, rfl⟩)
        clear r3 r4 T8 T9 HX HC HL HAL T0 RR KN CZ HAT h27 T5h
        generalize hnw : (wantL zs x k).length = nw at *
        go_wp2_with (first | (at_builtin; refine wp_app rfl rfl rfl rfl R1.out ?_; clear R1) | (at_builtin; refine wp_app rfl rfl rfl rfl R2.out ?_; clear R2) | (at_builtin; refine wp_app rfl rfl rfl rfl R3.out ?_; clear R3) | (at_builtin; refine wp_app rfl rfl rfl rfl R4.out ?_; clear R4))
        exact ⟨⟨k + 1, _, _, _, _, _, _, _, rfl, by omega, by omega, by go_num, rfl, rfl, rfl, RW⟩, by simp [intOf]; omega⟩
      · obtain ⟨l2, V7, r3, T7⟩ := T5h.out.item 23 (rowI z 0) (by rw [List.length_append, HL.out]; show 2 * k + 1 ≤ _; omega)
        rw [show (rowI z 0).cells = #[.int .i64 8, .string ⟨#[]⟩, .string ⟨#[]⟩, .int .i64 0, .int .i64 0, .int .i64 0, .int .i32 0, .int .u32 (z % 9), .slice none 0 0] by unfold rowI; rw [if_neg (by omega), if_pos hzm]; rfl] at r3
        obtain ⟨v2, V8, r4, T8⟩ := T7.zeros 32 (z % 9).toNat (by omega) (by have := h27.out; omega)
        rw [show (((z % 9).toNat : Nat) : Int) = z % 9 by omega] at r4
        have R3 : Hid _ := r3
        have R4 : Hid _ := r4
        have cz7 : V7.cell? ⟨b0, off + k, none⟩ = some (.int .u8 z) := CZ.out _ T7.low
        have RW : Hid _ := rows_step RR.out hkl HZZ.out.symm ⟨hz0, hz1⟩ HNM.out HAT.out (ps := List.replicate (z % 9).toNat 0) (by unfold pieceL; rw [if_neg (by omega), if_pos hzm]) T8 KN.out (fun h => by omega)
        clear r3 r4 T7 T8 HX HC HL HAL T0 RR KN CZ HAT h27 T5h
        generalize hnw : (wantL zs x k).length = nw at *
        go_wp2_with (first | (at_builtin; refine wp_app rfl rfl rfl rfl R1.out ?_; clear R1) | (at_builtin; refine wp_app rfl rfl rfl rfl R2.out ?_; clear R2) | (at_builtin; refine wp_app rfl rfl rfl rfl R3.out ?_; clear R3) | (at_builtin; refine wp_app rfl rfl rfl rfl R4.out ?_; clear R4))
        exact ⟨⟨k + 1, _, _, _, _, _, _, _, rfl, by omega, by omega, by go_num, rfl, rfl, rfl, RW⟩, by simp [intOf]; omega⟩
      · obtain ⟨l2, V7, r3, T7⟩ := T5h.out.item 23 (rowI z 0) (by rw [List.length_append, HL.out]; show 2 * k + 1 ≤ _; omega)
        rw [show (rowI z 0).cells = #[.int .i64 2, .string ⟨#[]⟩, .string ⟨#[97, 100, 100, 105]⟩, .int .i64 (z % 32), .int .i64 0, .int .i64 0, .int .i32 0, .int .u32 0, .slice none 0 0] by unfold rowI; rw [if_neg (by omega), if_neg (by omega)]; rfl] at r3
        obtain ⟨v2, V8, r4, T8⟩ := T7.words 32 [z % 32 * 128 + 19] 1 rfl (by have := h27.out; simp; omega)
        have hor : bits .or .u32 (z % 32 * 128) 19 = z % 32 * 128 + 19 := or_add (x := z % 32 * 128) (y := 19) 7 (by omega) ⟨by omega, by omega⟩ (by omega) (by omega) (by omega)
        have R3 : Hid _ := r3
        have R4 : Hid _ := r4
        have cz7 : V7.cell? ⟨b0, off + k, none⟩ = some (.int .u8 z) := CZ.out _ T7.low
        have RW : Hid _ := rows_step RR.out hkl HZZ.out.symm ⟨hz0, hz1⟩ HNM.out HAT.out (ps := [z % 32 * 128 + 19]) (by unfold pieceL; rw [if_neg (by omega), if_neg (by omega)]) T8 KN.out (fun h => by omega)
        clear r3 r4 T7 T8 HX HC HL HAL T0 RR KN CZ HAT h27 T5h
        generalize hnw : (wantL zs x k).length = nw at *
        go_wp2_with (first | (at_builtin; refine wp_app rfl rfl rfl rfl R1.out ?_; clear R1) | (at_builtin; refine wp_app rfl rfl rfl rfl R2.out ?_; clear R2) | (at_builtin; refine wp_app rfl rfl rfl rfl R3.out ?_; clear R3) | (at_builtin; refine wp_app rfl rfl rfl rfl R4.out ?_; clear R4))
        exact ⟨⟨k + 1, _, _, _, _, _, _, _, rfl, by omega, by omega, by go_num, rfl, rfl, rfl, RW⟩, by simp [intOf]; omega⟩
    · have RR : Hid _ := hr.out.row
      have h27 : Hid _ := wantL_few hr.out.row x
      have T0 : Hid _ := hr.out.tri
      have KN : Hid _ := hr.out.all
      obtain ⟨bb, sl, cl, rfl, its⟩ := its_own hr.out.tri.ol
      have IT : Hid _ := its
      have HWF : Hid (∀ (j : Nat) (y : It), xs[j]? = some y → y.kind = 7 → WordsAt V y.wa y.wl y.wc (wfR zs x j)) := fun j y hy hk7 => by
        rcases RR.out.parts hy with ⟨i, hi, e, rfl⟩ | ⟨i, hi, e, rfl⟩
        · exfalso
          revert hk7
          show ¬ (1 : Int) = 7
          omega
        · have h3 : zs i % 3 = 0 := by
            revert hk7
            unfold rowI
            split
            · intro _; assumption
            · split
              · show (8 : Int) = 7 → _; omega
              · show (2 : Int) = 7 → _; omega
          have hg := (T0.out.wd _ _ (KN.out i hi h3)).1
          have e2 : wfR zs x j = [x, zs i] := by
            unfold wfR
            rw [e, show (2 * i + 1) / 2 = i by omega]
          rw [e2, show rowI (zs i) (gf i) = ⟨7, ⟨#[]⟩, ⟨#[]⟩, 0, 0, 0, 0, 0, some ⟨gf i, 0, none⟩, 2, 2⟩ from if_pos h3]
          refine ⟨rfl, .inr ⟨_, rfl, fun q u hq => ?_⟩⟩
          rw [show (⟨gf i, 0, none⟩ : Addr).add q = ⟨gf i, q, none⟩ by rw [Addr.add_lit]; simp]
          refine ⟨(Array.getElem?_eq_some_iff.1 hg).1, (cells_of hg).1 q u ?_⟩
          rw [← Array.getElem?_toList]
          exact hq
      have hl1 : xs.length ≤ 1000000 := by have := RR.out.len; omega
      have CA := aAsmP (w := V) (cap := cl) (base := b) its hl1 RR.out.ok HB0.out.1 HB0.out.2 (fun r at' er h => RR.out.right h) RR.out.plain (wfR zs x) HWF.out RR.out.labs RR.out.sums
      rw [RR.out.len, RR.out.outW x k (Nat.le_refl _), RR.out.outS x b k (Nat.le_refl _), symL_len] at CA
      obtain ⟨b2, hb2⟩ : ∃ b2, b2 = (b + 64) % 4294967296 := ⟨_, rfl⟩
      have hbb := HB0.out
      have CB : Hid (∀ V1, Below V.heap.size V V1 → Calls Try.prog 13 #[.int .u32 b2, .slice sl (2 * k) cl] V1 fun e w' => ∃ (wv sv : Value) (B : Nat), e = .returned (.tuple #[wv, sv, .int .i64 0, .int .i64 0]) ∧ V1.heap.size ≤ B ∧ w'.ownsRow B 22 1 wv (wantL zs x k).length (wrow (wantL zs x k)) ∧ w'.ownsRow B 59 2 sv k (srow (symL zs x b2 k)) ∧ (∀ k, wv.ownBlock = some k → sv.ownBlock = some k → False) ∧ Below V1.heap.size V1 w') := fun V1 hb1 => by
        have C := aAsmP (w := V1) (cap := cl) (base := b2) (its.below hb1) hl1 RR.out.ok (by omega) ⟨by omega, by omega⟩ (fun r at' er h => RR.out.right h) RR.out.plain (wfR zs x) (fun j y hy h7 => (HWF.out j y hy h7).below hb1) RR.out.labs RR.out.sums
        rw [RR.out.len, RR.out.outW x k (Nat.le_refl _), RR.out.outS x b2 k (Nat.le_refl _), symL_len] at C
        exact C
      have CAh : Hid _ := CA
      have HAV : Hid (∀ i, atV zs x b2 i = (atV zs x b i + 64) % 4294967296) := fun i => atV_more zs x b b2 i hb2
      have hb3 : (b + 64) % 4294967296 = b2 := hb2.symm
      have hxl : xs.length = 2 * k := RR.out.len
      have OW : Hid _ := T0.out.ow
      have OA : Hid (V.ownsRow w.heap.size 22 1 a k (wrow (atL zs x b k))) := by
        have := T0.out.oa
        rw [atL_len] at this
        exact this
      have LW : Hid _ := T0.out.low
      clear CA its hr hbb hb2 hl1 HWF IT T0 KN RR HX
      rw [hxl]
      have hend : ((k : Int) < (n : Int)) = False ∨ (((k : Int) < (n : Int)) = True ∧ ((k : Int) < 30) = False) := by
        by_cases e : k < n
        · exact .inr ⟨by simp [e], by simp; omega⟩
        · exact .inl (by simp; omega)
      clear hlt
      rcases hend with hend | ⟨hend, hend2⟩
      all_goals
        go_wp2_with fail
        refine Calls.mono CAh.out ?_
        rintro e V1 ⟨wv1, sv1, B1, rfl, _, o1, p1, _, bl1⟩
        have O1 : Hid _ := o1
        have P1 : Hid _ := p1
        have L1 : Hid _ := bl1
        obtain ⟨s1a, s1c, g1, rfl, _, _⟩ := own_syms p1 (symL_len _ _ _ _).symm
        clear o1 p1 bl1
        go_wp2_with fail
        refine Calls.mono (CB.out _ L1.out) ?_
        rintro e V2 ⟨wv2, sv2, B2, rfl, _, o2, p2, _, bl2⟩
        have O2 : Hid _ := o2
        have P2 : Hid _ := p2
        have O1b : Hid _ := owns_below O1.out bl2
        have P1b : Hid _ := owns_below P1.out bl2
        have L2 : Hid _ := below_step L1.out bl2
        obtain ⟨s2a, s2c, g2, rfl, _, _⟩ := own_syms p2 (symL_len _ _ _ _).symm
        obtain ⟨aa, ac, ga, rfl, _, _⟩ := own_cells OA.out (atL_len _ _ _ _).symm
        clear o2 p2 bl2 O1 P1
        go_wp2_with (first | (go_at_call 14; refine (errA _ _).mono ?_; rintro e w' ⟨rfl, rfl⟩))
        refine Calls.mono (wSame O1b.out (owns_below OW.out L2.out) rfl (by have := h27.out; omega)) ?_
        rintro e V3 ⟨rfl, b3'⟩
        have L3 : Hid _ := below_step L2.out b3'
        have P1c : Hid _ := owns_below P1b.out b3'
        have P2c : Hid _ := owns_below P2.out b3'
        have O2c : Hid _ := owns_below O2.out b3'
        clear b3' P1b P2 O2 O1b
        go_wp2_with fail
        refine Calls.mono (wSame O2c.out (owns_below OW.out L3.out) rfl (by have := h27.out; omega)) ?_
        rintro e V4 ⟨rfl, b4'⟩
        have L4 : Hid _ := below_step L3.out b4'
        have P1d : Hid _ := owns_below P1c.out b4'
        have P2d : Hid _ := owns_below P2c.out b4'
        have A4 : Hid _ := owns_below OA.out (below_step L3.out b4')
        clear b4' P1c P2c O2c
        obtain ⟨x1, X1, Y1⟩ := syms_there P1d.out (symL_len _ _ _ _).symm
        obtain ⟨x2, X2, Y2⟩ := syms_there P2d.out (symL_len _ _ _ _).symm
        obtain ⟨x3, X3, Y3⟩ := cells_there A4.out (atL_len _ _ _ _).symm
        have HX1 : Hid _ := X1
        have HX2 : Hid _ := X2
        have HX3 : Hid _ := X3
        have HY1 : Hid _ := Y1
        have HY2 : Hid _ := Y2
        have HY3 : Hid _ := Y3
        clear X1 X2 X3 Y1 Y2 Y3 P1d P2d A4 h27 OW OA CAh CB L1 L2 L3
        go_wp2_with fail
        go_loopw [20] (fun i wr => ∃ (m : Nat) (W : World), W = wr ∧ m ≤ k ∧ i = .int .i64 m ∧ Hid (Below V4.heap.size V4 W)) (fun i _ => k - (intOf i).toNat)
        case atStart => exact ⟨0, _, rfl, Nat.zero_le _, rfl, Below.refl _ _⟩
        case round =>
          obtain ⟨m, W, rfl, hmk, rfl, hbr⟩ := hrel
          by_cases hlt : m < k
          · have m0 : (0 : Int) ≤ (m : Int) := by omega
            have m1 : (m : Int) < (k : Int) := by omega
            obtain ⟨q1, r1⟩ := HX1.out (by omega)
            obtain ⟨q2, r2⟩ := HX2.out (by omega)
            obtain ⟨q3, r3⟩ := HX3.out (by omega)
            subst q1 q2 q3
            have d0 : W.cell? ⟨x1, m * 2, none⟩ = some (.string (nmL m)) := by rw [hbr.out.cell (p := ⟨x1, m * 2, none⟩) r1]; exact (HY1.out m _ (symL_at _ _ _ k m hlt)).1
            have d1 : W.cell? ⟨x1, m * 2 + 1, none⟩ = some (.int .u32 (atV zs x b m)) := by rw [hbr.out.cell (p := ⟨x1, m * 2 + 1, none⟩) r1]; exact (HY1.out m _ (symL_at _ _ _ k m hlt)).2
            have d2 : W.cell? ⟨x2, m * 2, none⟩ = some (.string (nmL m)) := by rw [hbr.out.cell (p := ⟨x2, m * 2, none⟩) r2]; exact (HY2.out m _ (symL_at _ _ _ k m hlt)).1
            have d3 : W.cell? ⟨x2, m * 2 + 1, none⟩ = some (.int .u32 ((atV zs x b m + 64) % 4294967296)) := by rw [hbr.out.cell (p := ⟨x2, m * 2 + 1, none⟩) r2, ← HAV.out m]; exact (HY2.out m _ (symL_at _ _ _ k m hlt)).2
            have d4 : W.cell? ⟨x3, m, none⟩ = some (.int .u32 (atV zs x b m)) := by rw [hbr.out.cell (p := ⟨x3, m, none⟩) r3]; exact HY3.out m _ (atL_at _ _ _ k m hlt)
            clear r1 r2 r3 HX1 HX2 HX3 HY1 HY2 HY3 hlt HAV
            generalize atV zs x b m = y at *
            generalize nmL m = nm at *
            go_wp2_with fail
            go_quiet (fail)
            go_wp2_with fail
            exact ⟨⟨m + 1, _, rfl, by omega, by go_num, ⟨hbr.out.os, hbr.out.tape, hbr.out.output, hbr.out.size, hbr.out.block⟩⟩, by simp [intOf]; omega⟩
          · have hkm : ¬ (m : Int) < (k : Int) := by omega
            go_wp2_with fail
            refine (aawake _).mono ?_
            rintro e V5 ⟨rfl, b5⟩
            have L5 : Hid _ := below_step (below_step L4.out hbr.out) b5
            clear b5
            go_wp2
            go_ret
            exact ⟨rfl, below_step LW.out L5.out⟩
theorem came_u8 {a : Option Addr} {n cap : Nat} {zs : List Int} {w : World}
    (hz : (a = none ∧ n = 0 ∧ cap = 0 ∧ zs = []) ∨ ∃ p, a = some p ∧ n ≤ cap ∧ cap ≤ maxLen ∧ zs.length = cap ∧ (∀ i, i < zs.length → w.cell? (p.add i) = some (.int .u8 (zs.getD i 0))) ∧ ∀ z ∈ zs, (Lit.int .u8 z).wf = true) :
    ∃ b off, n ≤ maxLen ∧ (0 < n → a = some ⟨b, off, none⟩ ∧ b < w.heap.size) ∧ (∀ i, i < n → w.cell? ⟨b, off + i, none⟩ = some (.int .u8 (zs.getD i 0))) ∧ ∀ i, 0 ≤ zs.getD i 0 ∧ zs.getD i 0 < 256 := by
  rcases hz with ⟨rfl, rfl, rfl, rfl⟩ | ⟨p, rfl, hl, hmc, hzl, hcell, hwz⟩
  · exact ⟨0, 0, Nat.zero_le _, fun h => absurd h (by omega), fun i hi => absurd hi (by omega), fun i => ⟨Int.le_refl _, by show (0 : Int) < 256; omega⟩⟩
  · have hu : ∀ i, 0 ≤ zs.getD i 0 ∧ zs.getD i 0 < 256 := fun i => by
      rw [List.getD_eq_getElem?_getD]
      cases hq : zs[i]? with
      | none => exact ⟨Int.le_refl _, by show (0 : Int) < 256; omega⟩
      | some y =>
        have := bounds_u8 (hwz y (List.mem_of_getElem? hq))
        exact ⟨this.1, by show y < 256; omega⟩
    by_cases hn : n = 0
    · subst hn
      exact ⟨0, 0, Nat.zero_le _, fun h => absurd h (by omega), fun i hi => absurd hi (by omega), hu⟩
    · obtain ⟨c, off', spot⟩ := p
      have hc := hcell 0 (by omega)
      have hspot : spot = none := by simpa [Addr.add] using World.cell?_spot hc
      subst hspot
      have hb : c < w.heap.size := by simpa [Addr.add] using World.block_lt_of_cell? _ _ hc
      exact ⟨c, off', by omega, fun _ => ⟨rfl, hb⟩, fun i hi => by have := hcell i (by omega); rwa [show (⟨c, off', none⟩ : Addr).add i = ⟨c, off' + i, none⟩ by rw [Addr.add_lit]] at this, hu⟩
theorem asmRows (a : Option Addr) (n cap : Nat) (zs : List Int) (base x : Int) (hb : U32 base) (hx : U32 x) (w : World)
    (hz : (a = none ∧ n = 0 ∧ cap = 0 ∧ zs = []) ∨ ∃ p, a = some p ∧ n ≤ cap ∧ cap ≤ maxLen ∧ zs.length = cap ∧ (∀ i, i < zs.length → w.cell? (p.add i) = some (.int .u8 (zs.getD i 0))) ∧ ∀ z ∈ zs, (Lit.int .u8 z).wf = true) :
    Calls Try.prog 8 #[.slice a n cap, .int .u32 base, .int .u32 x] w fun e w' => e = .returned (.bool true) ∧ Below w.heap.size w w' := by
  obtain ⟨c, off, h1, h2, h3, h4⟩ := came_u8 hz
  exact asmRows_way a c off n cap base x (fun i => zs.getD i 0) hb hx w h1 h2 h3 h4
end Go.Proofs.Ytpjnefnngmlpjaa
