/-
  Package lex: sign, name.
-/
import Derived.Test.YtjgpojjbjgdfkaaDoorLxw
namespace Go.Proofs.YtjgpojjbjgdfkaaDoor
open Go.RowKit

theorem lSignLen {B : Nat} {w : World} {rb : Nat} {S : ByteArray} (h : Rd B w rb S) (hS : S.size ≤ 281474976710656) (p : Nat) (hp : p < S.size) :
    Calls Tryd.prog 44 #[.pointer (some ⟨rb, 0, none⟩), .int .i64 p] w fun e w' => e = .returned (.int .i64 (signN S p)) ∧ Only rb w w' ∧ Rd B w' rb S := by
  obtain ⟨hB, m, h1, h2⟩ := h
  cases m with
  | none => exact lSignLenN h1 hB hS p hp
  | some g =>
    obtain ⟨a, b, n, c⟩ := h2 g rfl
    refine Calls.mono (lSignLenS h1 c hS p hp) ?_
    rintro e w1 ⟨rfl, hb⟩
    exact ⟨rfl, Only.of_below hb, Rd.kept ⟨hB, some g, h1, h2⟩ hb⟩
theorem tok_at {w : World} {b : Nat} {k n p : Int} {t : ByteArray} (h : w.heap[b]? = some (.cells (tokC k t n p) 33)) :
    w.cell? ⟨b, 0, none⟩ = some (.int .i64 k) ∧ w.cell? ⟨b, 1, none⟩ = some (.string t) ∧ w.cell? ⟨b, 2, none⟩ = some (.int .u32 n) ∧ w.cell? ⟨b, 3, none⟩ = some (.int .i64 p) ∧
    w.frozen? ⟨b, 0, none⟩ = false ∧ w.frozen? ⟨b, 1, none⟩ = false ∧ w.frozen? ⟨b, 2, none⟩ = false ∧ w.frozen? ⟨b, 3, none⟩ = false := by
  obtain ⟨f, g, _⟩ := cells_of h
  exact ⟨f 0 _ rfl, f 1 _ rfl, f 2 _ rfl, f 3 _ rfl, g 0, g 1, g 2, g 3⟩
theorem tok_put {B : Nat} {w V : World} {b : Nat} {k n p : Int} {t : ByteArray} (h : V.heap[b]? = some (.cells (tokC k t n p) 33)) (hb : Below B w V) (hB : B ≤ b) (k' : Int) (t' : ByteArray) (n' p' : Int) :
    ∃ Y, Y = (((V.setCell ⟨b, 0, none⟩ (.int .i64 k')).setCell ⟨b, 1, none⟩ (.string t')).setCell ⟨b, 2, none⟩ (.int .u32 n')).setCell ⟨b, 3, none⟩ (.int .i64 p') ∧ Y.heap[b]? = some (.cells (tokC k' t' n' p') 33) ∧ Below B w Y := by
  refine ⟨_, rfl, ?_, (((hb.setCell hB _).setCell hB _).setCell hB _).setCell hB _⟩
  have h1 := heap_setCell_at (i := 0) (.int .i64 k') h
  have h2 := heap_setCell_at (i := 1) (.string t') h1
  have h3 := heap_setCell_at (i := 2) (.int .u32 n') h2
  exact heap_setCell_at (i := 3) (.int .i64 p') h3
set_option maxRecDepth 100000 in
set_option maxHeartbeats 2000000 in
theorem lName {w : World} {rb : Nat} {S : ByteArray} {m : Option Nat} (h : RdAt w rb S m) (hS : S.size ≤ 281474976710656) (p : Nat) (hp : p < S.size) {q : Nat} (hq : q = whileV S bInName (S.size - p) p) {t : ByteArray} (ht : t = S.extract p q) {K : Int} (hK : K = if isWordV t then 3 else 2) :
    Calls Tryd.prog 32 #[.pointer (some ⟨rb, 0, none⟩), .int .i64 p] w fun e w' => e = .returned (.tuple #[.agg (tokC K t 0 p), .int .i64 q]) ∧ Below w.heap.size w w' := by
  have H : Hid _ := h
  have HQ : Hid (q = whileV S bInName (S.size - p) p) := hq
  have q0 : p ≤ q := by rw [hq]; exact while_ge _ _ _ _
  have q1 : q ≤ S.size := by rw [hq]; exact while_le _ _ (by omega)
  have HT : Hid (t.size ≤ q - p) := by show _ ≤ _; rw [ht, ByteArray.size_extract]; omega
  have HE : Hid (t = S.extract p q) := ht
  have HK : Hid (K = if isWordV t then 3 else 2) := hK
  have HI : Hid _ := lIsWord t
  clear h hq ht hK
  go_enter Tryd.func32, Tryd.ntmps32
  go_wp2_with fail
  obtain ⟨W, hW⟩ : ∃ W, W = w.alloc (.cells (tokC 0 ⟨#[]⟩ 0 0) 33) := ⟨_, rfl⟩
  have hWb : Hid (Below w.heap.size w W) := by rw [hW]; exact (Below.refl _ _).alloc (Nat.le_refl _) _
  have hWk : Hid (W.heap[w.heap.size]? = some (.cells (tokC 0 ⟨#[]⟩ 0 0) 33)) := by rw [hW]; exact alloc_at _ _
  have hWl : Hid (w.heap.size < W.heap.size) := by rw [hW]; show _ < _; rw [World.size_alloc]; omega
  unfold tokC at hW
  rw [← hW]
  clear hW
  refine Calls.mono (lWhileN (kept_on H.out hWb.out) (by unfold maxLen; omega) p (by omega)) ?_
  rw [← HQ.out]
  rintro e w1 ⟨rfl, rfl⟩
  go_wp2_with fail
  refine Calls.mono (lText (kept_on H.out hWb.out) hS p q q0 q1) ?_
  rw [← HE.out]
  rintro e w2 ⟨rfl, hb2⟩
  have k2 : Hid _ := kept_on hWk.out hb2
  have hb2' : Hid (Below w.heap.size w w2) := below_step hWb.out hb2
  have hl2 : Hid (w.heap.size < w2.heap.size) := by have := hb2.size; have := hWl.out; show _ < _; omega
  clear hb2 hWk hWb hWl
  go_wp2_with fail
  refine Calls.mono (HI.out _) ?_
  obtain ⟨V, hV⟩ : ∃ V, V = w2.alloc (.cells (tokC 2 t 0 p) 33) := ⟨_, rfl⟩
  have hVb : Hid (Below w.heap.size w V) := by rw [hV]; exact below_step hb2'.out ((Below.refl _ _).alloc (Nat.le_refl _) _)
  have hVk : V.heap[w2.heap.size]? = some (.cells (tokC 2 t 0 p) 33) := by rw [hV]; exact alloc_at _ _
  have hVr : V.heap[w.heap.size]? = some (.cells (tokC 0 ⟨#[]⟩ 0 0) 33) := by rw [hV]; exact kept_on k2.out ((Below.refl _ _).alloc (Nat.le_refl _) _)
  unfold tokC at hV
  rw [← hV]
  have nb : Hid _ := hl2.out
  clear hV hb2' hl2 k2 HI HT
  generalize w2.heap.size = b2 at *
  rintro e w3 ⟨rfl, rfl⟩
  cases hw : isWordV t with
  | false =>
    have hk : K = 2 := by rw [HK.out, hw]; rfl
    clear HK
    subst hk
    obtain ⟨f1, f2, f3, f4, -, -, -, -⟩ := tok_at hVk
    obtain ⟨g1, g2, g3, g4, z1, z2, z3, z4⟩ := tok_at hVr
    obtain ⟨Y, hY, hYk, hYb⟩ := tok_put hVr hVb.out (Nat.le_refl _) 2 t 0 p
    obtain ⟨y1, y2, y3, y4, -, -, -, -⟩ := tok_at hYk
    have HYb : Hid _ := hYb
    clear hYk hVk hVr hYb
    go_wp2_with (rw [← hY])
    exact bodyPost_ret (v := .tuple #[.agg (tokC 2 t 0 p), .int .i64 q]) (by simp [results, Tryd.results32, go_sem, tokC, y1, y2, y3, y4]) rfl ⟨rfl, HYb.out⟩
  | true =>
    have hk : K = 3 := by rw [HK.out, hw]; rfl
    clear HK
    subst hk
    have hne : b2 ≠ w.heap.size := by have := nb.out; omega
    obtain ⟨f1, f2, f3, f4, zf, -, -, -⟩ := tok_at hVk
    obtain ⟨X, hX⟩ : ∃ X, X = w3.setCell ⟨b2, 0, none⟩ (.int .i64 3) := ⟨_, rfl⟩
    have hXr : X.heap[w.heap.size]? = some (.cells (tokC 0 ⟨#[]⟩ 0 0) 33) := by rw [hX, Below.heap_setCell _ _ _ _ (Ne.symm hne)]; exact hVr
    have hXb : Below w.heap.size w X := by rw [hX]; exact hVb.out.setCell (by show w.heap.size ≤ b2; exact Nat.le_of_lt nb.out) _
    obtain ⟨g1, g2, g3, g4, z1, z2, z3, z4⟩ := tok_at hVr
    obtain ⟨Y, hY, hYk, hYb⟩ := tok_put hXr hXb (Nat.le_refl _) 3 t 0 p
    obtain ⟨y1, y2, y3, y4, -, -, -, -⟩ := tok_at hYk
    have HYb : Hid _ := hYb
    rw [hX] at hY
    clear hYk hVk hVr hXr hYb hXb hX
    go_wp2_with (rw [← hY])
    exact bodyPost_ret (v := .tuple #[.agg (tokC 3 t 0 p), .int .i64 q]) (by simp [results, Tryd.results32, go_sem, tokC, y1, y2, y3, y4]) rfl ⟨rfl, HYb.out⟩
end Go.Proofs.YtjgpojjbjgdfkaaDoor
