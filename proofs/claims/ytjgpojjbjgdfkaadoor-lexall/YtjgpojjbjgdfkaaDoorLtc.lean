/-
  footmanlaw10: same, is.
-/
import Derived.Test.YtjgpojjbjgdfkaaDoorRxk
import Derived.Test.YtjgpojjbjgdfkaaDoorLawrw10
namespace Go.Proofs.YtjgpojjbjgdfkaaDoor
open Go.RowKit Go.Sort

set_option maxRecDepth 100000 in
set_option maxHeartbeats 4000000 in
theorem tSame {V : World} {B B' n : Nat} {va vb : Value} {l : List (Int × ByteArray × Int × Nat)} (h1 : V.ownsRow B 33 4 va n (tkrow l)) (h2 : V.ownsRow B' 33 4 vb n (tkrow l)) (hn : n = l.length) (hl : n ≤ 1000000) :
    Calls Tryd.prog 18 #[va, vb] V fun e w' => e = .returned (.bool true) ∧ Below V.heap.size V w' := by
  obtain ⟨sa, ca, ga, rfl, a1, a2⟩ := own_toks h1 hn
  obtain ⟨sb, cb, gb, rfl, b1, b2⟩ := own_toks h2 hn
  have HA1 : Hid _ := a1
  have HA2 : Hid _ := a2
  have HB1 : Hid _ := b1
  have HB2 : Hid _ := b2
  have HN : Hid (n = l.length) := hn
  clear h1 h2 a1 a2 b1 b2 hn
  go_enter Tryd.func18, Tryd.ntmps18
  go_wp2_with fail
  go_loopw [5] (fun i wr => ∃ (k : Nat) (W : World), W = wr ∧ k ≤ n ∧ i = .int .i64 k ∧ Hid (Below V.heap.size V W)) (fun i _ => n - (intOf i).toNat)
  case atStart => exact ⟨0, _, rfl, Nat.zero_le _, rfl, Below.refl _ _⟩
  case round =>
    obtain ⟨k, W, rfl, hk, rfl, hbr⟩ := hrel
    have k0 : (0 : Int) ≤ (k : Int) := by omega
    by_cases hlt : k < n
    · obtain ⟨y, hy⟩ : ∃ y, l[k]? = some y := ⟨_, List.getElem?_eq_getElem (by rw [← HN.out]; exact hlt)⟩
      obtain ⟨ea, la⟩ := HA1.out (by omega)
      obtain ⟨eb, lb⟩ := HB1.out (by omega)
      subst ea eb
      obtain ⟨p0, p1, p2, p3⟩ := HA2.out k y hy
      obtain ⟨q0, q1, q2, q3⟩ := HB2.out k y hy
      have d0 := (hbr.out.cell (p := ⟨ga, k * 4, none⟩) la).trans p0
      have d1 := (hbr.out.cell (p := ⟨ga, k * 4 + 1, none⟩) la).trans p1
      have d2 := (hbr.out.cell (p := ⟨ga, k * 4 + 2, none⟩) la).trans p2
      have d3 := (hbr.out.cell (p := ⟨ga, k * 4 + 3, none⟩) la).trans p3
      have e0 := (hbr.out.cell (p := ⟨gb, k * 4, none⟩) lb).trans q0
      have e1 := (hbr.out.cell (p := ⟨gb, k * 4 + 1, none⟩) lb).trans q1
      have e2 := (hbr.out.cell (p := ⟨gb, k * 4 + 2, none⟩) lb).trans q2
      have e3 := (hbr.out.cell (p := ⟨gb, k * 4 + 3, none⟩) lb).trans q3
      obtain ⟨K, t, m, a⟩ := y
      dsimp only at d0 d1 d2 d3 e0 e1 e2 e3
      have k1 : (k : Int) < (n : Int) := by omega
      have k2 : (n : Int) ≤ 1000000 := by omega
      clear la lb hy p0 p1 p2 p3 q0 q1 q2 q3
      go_wp2_with fail
      go_quiet (fail)
      have B4 : Hid (Below V.heap.size V (W.drewN nq)) := below_drewN hbr.out nq
      go_wp2_with fail
      exact ⟨⟨k + 1, _, rfl, hlt, by go_num, B4⟩, by simp [intOf]; omega⟩
    · have hkn : k = n := by omega
      subst hkn
      go_wp2
      go_ret
      exact ⟨rfl, hbr.out⟩
set_option maxRecDepth 100000 in
set_option maxHeartbeats 4000000 in
theorem tIs {w : World} {S : ByteArray} (hS : S.size ≤ 1000) (x : Int) (ev : Value) (hv : w.cell? ⟨1, 0, none⟩ = some ev) (hev : ev = .nilIface ∨ ∃ te pe, ev = .iface te pe) :
    Calls Tryd.prog 9 #[.string S, .int .i64 x] w fun e w' => e = .returned (.bool true) ∧ Below w.heap.size w w' := by
  have hlt : 1 < w.heap.size := Lib.lt_of_cell hv
  obtain ⟨K, t, n, a, E, hT⟩ : ∃ K t n a E, nextT S (clampV S x) = (K, t, n, a, E) := ⟨_, _, _, _, _, rfl⟩
  obtain ⟨-, m2, m3, -⟩ := nextT_more (clamp_le S x) hT
  have C1 : Hid _ := lNextF (w := w) (S := S) (by omega) x ev hv hev hT
  have C2 : Hid (∀ W, Calls Tryd.prog 17 #[.string S, .int .i64 x] W fun e w' => ∃ b : Nat, e = .returned (.agg (foundC K t n a b)) ∧ (K ≠ 5 → b = E) ∧ Below W.heap.size W w') := fun W => xNext (w := W) (by omega) x hT
  have hLn : (allV S (S.size + 1) 0).length ≤ S.size + 1 := allV_len _ _
  have C3 : Hid (∀ W, Below w.heap.size w W → Calls Tryd.prog 15 #[.string S] W fun e w' => ∃ v n, e = .returned v ∧ n = (allV S (S.size + 1) 0).length ∧ w'.ownsRow W.heap.size 33 4 v n (tkrow (allV S (S.size + 1) 0)) ∧ Below W.heap.size W w') := fun W hb =>
    lAll (w := W) (by omega) ev ((hb.cell (p := ⟨1, 0, none⟩) hlt).trans hv) hev
  have C4 : Hid (∀ W, Calls Tryd.prog 19 #[.string S] W fun e w' => ∃ v n, e = .returned v ∧ n = (allV S (S.size + 1) 0).length ∧ w'.ownsRow W.heap.size 33 4 v n (tkrow (allV S (S.size + 1) 0)) ∧ Below W.heap.size W w') := fun W => xAll (w := W) (by omega)
  obtain ⟨L, hL⟩ : ∃ L, L = allV S (S.size + 1) 0 := ⟨_, rfl⟩
  rw [← hL] at C3 C4 hLn
  have HLn : Hid (L.length ≤ 1001) := by show _ ≤ _; omega
  have a0 : (0 : Int) ≤ (a : Int) := by omega
  have a1 : decide ((E : Int) < (a : Int)) = false := decide_eq_false (by omega)
  have a2 : decide ((S.size : Int) < (E : Int)) = false := decide_eq_false (by omega)
  have a3 : decide (E < a) = false := decide_eq_false (by omega)
  have a4 : decide (S.size < E) = false := decide_eq_false (by omega)
  clear hL hLn hT hv hev m2 m3
  go_enter Tryd.func9, Tryd.ntmps9
  go_wp2_with fail
  refine Calls.mono C1.out ?_
  rintro e w1 ⟨rfl, b1⟩
  obtain ⟨V1, hV1⟩ : ∃ V1, V1 = w1.alloc (.cells (tokC K t n a) 33) := ⟨_, rfl⟩
  have BV1 : Hid (Below w.heap.size w V1) := by rw [hV1]; exact b1.alloc b1.size _
  have KA1 : Hid (V1.heap[w1.heap.size]? = some (.cells (tokC K t n a) 33)) := by rw [hV1]; exact alloc_at _ _
  clear b1 C1
  unfold tokC at hV1 ⊢
  go_wp2_with fail
  rw [← hV1]
  clear hV1
  refine Calls.mono (C2.out _) ?_
  rintro e w2 ⟨b, rfl, hbE, b2⟩
  have HBE : Hid (K ≠ 5 → b = E) := hbE
  have k2 := kept_on KA1.out b2
  have B2 : Hid (Below w.heap.size w w2) := BV1.out.trans (b2.mono BV1.out.size)
  have b3 : Below w2.heap.size w2 (w2.alloc (.cells (foundC K t n a b) 42)) := (Below.refl _ _).alloc (Nat.le_refl _) _
  obtain ⟨y1, y2, y3, y4, -, -, -, -⟩ := tok_at (kept_on k2 b3)
  obtain ⟨f1, f2, f3, f4, f5, -, -, -, -, -⟩ := found_at (alloc_at w2 (.cells (foundC K t n a b) 42))
  have B3 : Hid (Below w.heap.size w (w2.alloc (.cells (foundC K t n a b) 42))) := B2.out.trans (b3.mono B2.out.size)
  clear b2 b3 k2 KA1 BV1 B2 hbE C2
  unfold foundC at *
  have fin : K = 5 ∨ ((K == 5) = false ∧ (K != 5) = true ∧ K ≠ 5) ∧ b = E := by
    by_cases h : K = 5
    · exact Or.inl h
    · exact Or.inr ⟨⟨by simpa using h, by simpa using h, h⟩, HBE.out h⟩
  clear HBE
  have main : ∀ W, Below w.heap.size w W → Calls Tryd.prog 15 #[.string S] W fun e w' => ∃ v n, e = .returned v ∧ n = L.length ∧ w'.ownsRow W.heap.size 33 4 v n (tkrow L) ∧ Below w.heap.size w w' := fun W hb => (C3.out W hb).mono fun e w' ⟨v, n, h1, h2, h3, h4⟩ => ⟨v, n, h1, h2, h3, hb.trans (h4.mono hb.size)⟩
  have CM : Hid _ := main _ B3.out
  clear main C3 B3
  rcases fin with rfl | ⟨⟨hK, hK2, hK3⟩, rfl⟩
  all_goals
    (go_wp2_with fail
     refine Calls.mono CM.out ?_
     rintro e w4 ⟨v4, n4, rfl, hn4, o4, b4⟩
     have B4 : Hid (Below w.heap.size w w4) := b4
     have O4 : Hid _ := o4
     clear b4 o4
     go_wp2_with fail
     refine Calls.mono (C4.out _) ?_
     rintro e w5 ⟨v5, n5, rfl, hn5, o5, b5⟩
     have B5 : Hid (Below w.heap.size w w5) := B4.out.trans (b5.mono B4.out.size)
     have hnn : n5 = n4 := hn5.trans hn4.symm
     subst hnn
     have CS : Hid _ := tSame (owns_below O4.out b5) o5 hn5 (by have := HLn.out; omega)
     clear b5 o5
     go_wp2_with fail
     refine Calls.mono CS.out ?_
     rintro e w6 ⟨rfl, b6⟩
     have B6 : Hid (Below w.heap.size w w6) := B5.out.trans (b6.mono B5.out.size)
     clear b6
     go_wp2_with fail
     go_ret
     exact ⟨rfl, B6.out⟩)
end Go.Proofs.YtjgpojjbjgdfkaaDoor
