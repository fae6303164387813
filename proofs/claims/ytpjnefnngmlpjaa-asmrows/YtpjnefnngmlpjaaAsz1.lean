/-
  Three rows that a call makes side by side (items, words, words), and blocks that are known: each is appended to, the others stay.
-/
import Derived.Test.YtpjnefnngmlpjaaAsz
import Derived.Test.YtpjnefnngmlpjaaAsy
namespace Go.Proofs.Ytpjnefnngmlpjaa
open Go.RowKit

theorem wp_app {P : Program} {ops : Array Oper} {rest : List Oper} {Q : Exit → Act → World → Prop} {o : Oper} {a : Act} {w w1 : World} {s x : Operand} {t1 t2 : TypeId} {vs vx v' : Value} (hgd : o.guard = none) (ho : o.op = .call { callee := .builtin .append, args := #[s, x], argTypes := #[t1, t2] }) (hs : a.eval s = vs) (hx : a.eval x = vx) (hr : (Builtin.append_ #[t1, t2] o.type #[vs, vx]).run P w = .ok v' w1) (h : wpList P ops Q rest (a.put o.dst v') w1) : wpList P ops Q (o :: rest) a w :=
  wpList_plain hgd fun K hK => by
    unfold Oper.wp
    rw [run_app ho hs hx hr]
    exact hK _ _ h
theorem wp_world {P : Program} {ops : Array Oper} {Q : Exit → Act → World → Prop} {l : List Oper} {a : Act} {W W' : World} (e : W = W') (h : wpList P ops Q l a W) : wpList P ops Q l a W' := e ▸ h
theorem own_low {B n : Nat} {w w2 w3 : World} {t : TypeId} {sz : Nat} {v : Value} {xs : List Value} (h : w2.ownsRow B t sz v n xs) (hb : Below B w w2) (hB : B ≤ w2.heap.size) (hg : w2.grownBy w3 v.ownBlock) : Below B w w3 := by
  cases hov : v.ownBlock with
  | none => exact below_grown (b := B) hb ⟨hg.os, hg.tape, hg.output, hg.size, fun k hk _ => hg.block k hk (by rw [hov]; simp)⟩ hB (Nat.le_refl _)
  | some k =>
    rw [hov] at hg
    exact below_grown hb hg hB (owns_lt h k hov).1
theorem irow_app (xs ys : List It) : irow (xs ++ ys) = irow xs ++ irow ys := by
  induction xs with
  | nil => rfl
  | cons a l ih => simp [irow, ih]
theorem app_item {w : World} {B : Nat} (ty : TypeId) {v : Value} {xs : List It} {x : It} {g : Nat} (ho : w.ownsRow B 34 9 v xs.length (irow xs)) (hg : w.heap[g]? = some (.cells x.cells 34)) (hn : xs.length ≤ 1000000) (hB : B ≤ w.heap.size) :
    ∃ v' w1, (Builtin.append_ #[23, 23] ty #[v, .slice (some ⟨g, 0, none⟩) 1 1]).run Try.prog w = .ok v' w1 ∧ w1.ownsRow B 34 9 v' (xs ++ [x]).length (irow (xs ++ [x])) ∧ w.grownBy w1 v.ownBlock ∧ (v'.ownBlock = v.ownBlock ∨ v'.ownBlock = some w.heap.size) := by
  obtain ⟨i0, hi0, hz0, hz1, hz2⟩ := info_parts infoItm
  obtain ⟨v', w1, e1, e2, e3, _, e5⟩ := run_append_own_at (P := Try.prog) w B 23 ty 34 i0 _ 9 104 Try.underlying23 hi0 hz0 hz1 hz2 rfl (by decide) v xs.length (irow xs) ho ⟨g, 0, none⟩ 1 1 x.cells.toList rfl (fun a u hu => by
      rw [show (⟨g, 0, none⟩ : Addr).add a = ⟨g, a, none⟩ by rw [Addr.add_lit]; simp]
      exact (cells_of hg).1 a u (by rw [← Array.getElem?_toList]; exact hu)) (fun u hu => by
      have := It.one x
      rw [Array.all_eq_true'] at this
      exact this u (by simpa using hu)) (by unfold maxLen; omega) (by omega) hB
  refine ⟨v', w1, e1, ?_, e3, e5⟩
  rw [irow_more, List.length_append]
  exact e2
theorem app_ws {w : World} {B : Nat} (ty : TypeId) {v : Value} {ws ks : List Int} {g n : Nat} (ho : w.ownsRow B 22 1 v ws.length (wrow ws)) (hg : w.heap[g]? = some (.cells (wrow ks).toArray 22)) (hk : n = ks.length) (hn : ws.length + ks.length ≤ 1000000) (hB : B ≤ w.heap.size) :
    ∃ v' w1, (Builtin.append_ #[32, 32] ty #[v, .slice (some ⟨g, 0, none⟩) n n]).run Try.prog w = .ok v' w1 ∧ w1.ownsRow B 22 1 v' (ws ++ ks).length (wrow (ws ++ ks)) ∧ w.grownBy w1 v.ownBlock ∧ (v'.ownBlock = v.ownBlock ∨ v'.ownBlock = some w.heap.size) := by
  obtain ⟨v', w1, e1, e2, e3, e4⟩ := app_words (ty := ty) (wa := some ⟨g, 0, none⟩) (wl := n) (wc := n) ho (ks := ks) ⟨hk, .inr ⟨_, rfl, fun j u hu => by
    rw [show (⟨g, 0, none⟩ : Addr).add j = ⟨g, j, none⟩ by rw [Addr.add_lit]; simp]
    exact ⟨(Array.getElem?_eq_some_iff.1 hg).1, (cells_of hg).1 j u (by rw [List.getElem?_toArray]; exact hu)⟩⟩⟩ (by omega) hB
  refine ⟨v', w1, e1, ?_, e3, e4⟩
  rw [List.length_append, show wrow (ws ++ ks) = wrow ws ++ wrow ks from List.map_append]
  exact e2
/-- Three rows and what is known. -/
structure Tri (B : Nat) (w0 V : World) (lv wv av : Value) (xs : List It) (ws qs : List Int) (kn : Nat → Obj → Prop) : Prop where
  low : Below B w0 V
  hB : B ≤ V.heap.size
  ol : V.ownsRow B 34 9 lv xs.length (irow xs)
  ow : V.ownsRow B 22 1 wv ws.length (wrow ws)
  oa : V.ownsRow B 22 1 av qs.length (wrow qs)
  lw : ∀ k, lv.ownBlock = some k → wv.ownBlock = some k → False
  la : ∀ k, lv.ownBlock = some k → av.ownBlock = some k → False
  wa : ∀ k, wv.ownBlock = some k → av.ownBlock = some k → False
  wd : ∀ g ob, kn g ob → V.heap[g]? = some ob ∧ lv.ownBlock ≠ some g ∧ wv.ownBlock ≠ some g ∧ av.ownBlock ≠ some g
section
variable {B : Nat} {w0 V V' w1 : World} {lv wv av v' : Value} {xs xs' : List It} {ws ws' qs qs' : List Int} {kn : Nat → Obj → Prop}
theorem Tri.below (h : Tri B w0 V lv wv av xs ws qs kn) (hb : Below V.heap.size V V') : Tri B w0 V' lv wv av xs ws qs kn :=
  ⟨h.low.trans (hb.mono h.hB), Nat.le_trans h.hB hb.size, owns_below h.ol hb, owns_below h.ow hb, owns_below h.oa hb, h.lw, h.la, h.wa, fun g ob hg => ⟨kept_on (h.wd g ob hg).1 hb, (h.wd g ob hg).2⟩⟩
theorem Tri.alloc (h : Tri B w0 V lv wv av xs ws qs kn) (o : Obj) : Tri B w0 (V.alloc o) lv wv av xs ws qs kn := h.below ((Below.refl _ _).alloc (Nat.le_refl _) _)
theorem Tri.know (h : Tri B w0 V lv wv av xs ws qs kn) (o : Obj) : Tri B w0 (V.alloc o) lv wv av xs ws qs (fun g ob => kn g ob ∨ (g = V.heap.size ∧ ob = o)) := by
  have h' := h.alloc o
  refine ⟨h'.low, h'.hB, h'.ol, h'.ow, h'.oa, h'.lw, h'.la, h'.wa, fun g ob hg => ?_⟩
  rcases hg with hg | ⟨rfl, rfl⟩
  · exact h'.wd g ob hg
  · exact ⟨alloc_at V _, fun e => by have := (owns_lt h.ol _ e).2; omega, fun e => by have := (owns_lt h.ow _ e).2; omega, fun e => by have := (owns_lt h.oa _ e).2; omega⟩
theorem Tri.mono {kn' : Nat → Obj → Prop} (h : Tri B w0 V lv wv av xs ws qs kn) (hk : ∀ g ob, kn' g ob → kn g ob) : Tri B w0 V lv wv av xs ws qs kn' :=
  ⟨h.low, h.hB, h.ol, h.ow, h.oa, h.lw, h.la, h.wa, fun g ob hg => h.wd g ob (hk g ob hg)⟩
theorem known_kept {g : Nat} {ob : Obj} {r : Option Nat} (h : V.heap[g]? = some ob) (hg : V.grownBy w1 r) (hn : r ≠ some g) : w1.heap[g]? = some ob := by
  rw [hg.block g (Array.getElem?_eq_some_iff.1 h).1 (fun e => hn e.symm)]
  exact h
theorem Tri.setL (h : Tri B w0 V lv wv av xs ws qs kn) (ho : w1.ownsRow B 34 9 v' xs'.length (irow xs')) (hg : V.grownBy w1 lv.ownBlock) (hv : v'.ownBlock = lv.ownBlock ∨ v'.ownBlock = some V.heap.size) : Tri B w0 w1 v' wv av xs' ws qs kn := by
  have fresh : ∀ k, v'.ownBlock = some k → lv.ownBlock = some k ∨ k = V.heap.size := fun k hk => by
    rcases hv with e | e
    · exact .inl (e ▸ hk)
    · rw [e] at hk; cases hk; exact .inr rfl
  refine ⟨own_low h.ol h.low h.hB hg, Nat.le_trans h.hB hg.size, ho, owns_grown h.ow hg h.lw, owns_grown h.oa hg h.la, fun k h1 h2 => ?_, fun k h1 h2 => ?_, h.wa, fun g ob hk => ?_⟩
  · rcases fresh k h1 with e | e
    · exact h.lw k e h2
    · have := (owns_lt h.ow k h2).2; omega
  · rcases fresh k h1 with e | e
    · exact h.la k e h2
    · have := (owns_lt h.oa k h2).2; omega
  · obtain ⟨k1, k2, k3, k4⟩ := h.wd g ob hk
    refine ⟨known_kept k1 hg k2, fun e => ?_, k3, k4⟩
    rcases fresh g e with e | e
    · exact k2 e
    · have := (Array.getElem?_eq_some_iff.1 k1).1; omega
theorem Tri.setW (h : Tri B w0 V lv wv av xs ws qs kn) (ho : w1.ownsRow B 22 1 v' ws'.length (wrow ws')) (hg : V.grownBy w1 wv.ownBlock) (hv : v'.ownBlock = wv.ownBlock ∨ v'.ownBlock = some V.heap.size) : Tri B w0 w1 lv v' av xs ws' qs kn := by
  have fresh : ∀ k, v'.ownBlock = some k → wv.ownBlock = some k ∨ k = V.heap.size := fun k hk => by
    rcases hv with e | e
    · exact .inl (e ▸ hk)
    · rw [e] at hk; cases hk; exact .inr rfl
  refine ⟨own_low h.ow h.low h.hB hg, Nat.le_trans h.hB hg.size, owns_grown h.ol hg (fun k a b => h.lw k b a), ho, owns_grown h.oa hg h.wa, fun k h1 h2 => ?_, h.la, fun k h1 h2 => ?_, fun g ob hk => ?_⟩
  · rcases fresh k h2 with e | e
    · exact h.lw k h1 e
    · have := (owns_lt h.ol k h1).2; omega
  · rcases fresh k h1 with e | e
    · exact h.wa k e h2
    · have := (owns_lt h.oa k h2).2; omega
  · obtain ⟨k1, k2, k3, k4⟩ := h.wd g ob hk
    refine ⟨known_kept k1 hg k3, k2, fun e => ?_, k4⟩
    rcases fresh g e with e | e
    · exact k3 e
    · have := (Array.getElem?_eq_some_iff.1 k1).1; omega
theorem Tri.setA (h : Tri B w0 V lv wv av xs ws qs kn) (ho : w1.ownsRow B 22 1 v' qs'.length (wrow qs')) (hg : V.grownBy w1 av.ownBlock) (hv : v'.ownBlock = av.ownBlock ∨ v'.ownBlock = some V.heap.size) : Tri B w0 w1 lv wv v' xs ws qs' kn := by
  have fresh : ∀ k, v'.ownBlock = some k → av.ownBlock = some k ∨ k = V.heap.size := fun k hk => by
    rcases hv with e | e
    · exact .inl (e ▸ hk)
    · rw [e] at hk; cases hk; exact .inr rfl
  refine ⟨own_low h.oa h.low h.hB hg, Nat.le_trans h.hB hg.size, owns_grown h.ol hg (fun k a b => h.la k b a), owns_grown h.ow hg (fun k a b => h.wa k b a), ho, h.lw, fun k h1 h2 => ?_, fun k h1 h2 => ?_, fun g ob hk => ?_⟩
  · rcases fresh k h2 with e | e
    · exact h.la k h1 e
    · have := (owns_lt h.ol k h1).2; omega
  · rcases fresh k h2 with e | e
    · exact h.wa k h1 e
    · have := (owns_lt h.ow k h1).2; omega
  · obtain ⟨k1, k2, k3, k4⟩ := h.wd g ob hk
    refine ⟨known_kept k1 hg k4, k2, k3, fun e => ?_⟩
    rcases fresh g e with e | e
    · exact k4 e
    · have := (Array.getElem?_eq_some_iff.1 k1).1; omega
/-- An item that lies in a block of its own is put behind the others. -/
theorem Tri.item (h : Tri B w0 V lv wv av xs ws qs kn) (ty : TypeId) (x : It) (hn : xs.length ≤ 1000000) :
    ∃ v' w1, (Builtin.append_ #[23, 23] ty #[lv, .slice (some ⟨V.heap.size, 0, none⟩) 1 1]).run Try.prog (V.alloc (.cells x.cells 34)) = .ok v' w1 ∧ Tri B w0 w1 v' wv av (xs ++ [x]) ws qs kn := by
  have h' := h.alloc (.cells x.cells 34)
  obtain ⟨v', w1, e1, e2, e3, e4⟩ := app_item ty h'.ol (alloc_at V _) hn h'.hB
  exact ⟨v', w1, e1, h'.setL e2 e3 e4⟩
theorem Tri.words (h : Tri B w0 V lv wv av xs ws qs kn) (ty : TypeId) (ks : List Int) (n : Nat) (hk : n = ks.length) (hn : ws.length + ks.length ≤ 1000000) :
    ∃ v' w1, (Builtin.append_ #[32, 32] ty #[wv, .slice (some ⟨V.heap.size, 0, none⟩) n n]).run Try.prog (V.alloc (.cells (wrow ks).toArray 22)) = .ok v' w1 ∧ Tri B w0 w1 lv v' av xs (ws ++ ks) qs kn := by
  have h' := h.alloc (.cells (wrow ks).toArray 22)
  obtain ⟨v', w1, e1, e2, e3, e4⟩ := app_ws ty h'.ow (alloc_at V _) hk hn h'.hB
  exact ⟨v', w1, e1, h'.setW e2 e3 e4⟩
theorem Tri.place (h : Tri B w0 V lv wv av xs ws qs kn) (ty : TypeId) (y : Int) (hn : qs.length + 1 ≤ 1000000) :
    ∃ v' w1, (Builtin.append_ #[32, 32] ty #[av, .slice (some ⟨V.heap.size, 0, none⟩) 1 1]).run Try.prog (V.alloc (.cells #[.int .u32 y] 22)) = .ok v' w1 ∧ Tri B w0 w1 lv wv v' xs ws (qs ++ [y]) kn := by
  have h' := h.alloc (.cells (wrow [y]).toArray 22)
  obtain ⟨v', w1, e1, e2, e3, e4⟩ := app_ws (ks := [y]) ty h'.oa (alloc_at V _) rfl hn h'.hB
  exact ⟨v', w1, e1, h'.setA e2 e3 e4⟩
theorem Tri.zeros (h : Tri B w0 V lv wv av xs ws qs kn) (ty : TypeId) (N : Nat) (hN : N ≤ 255) (hn : ws.length ≤ 1000000) :
    ∃ v' w1, (Builtin.append_ #[32, 5] ty #[wv, .int .u8 N]).run Try.prog V = .ok v' w1 ∧ Tri B w0 w1 lv v' av xs (ws ++ List.replicate N 0) qs kn := by
  obtain ⟨v', w1, e1, e2, e3, e4⟩ := app_zeros8 (ty := ty) N h.ow (by omega) (by omega) h.hB
  refine ⟨v', w1, e1, h.setW ?_ e3 e4⟩
  rw [List.length_append, List.length_replicate, show wrow (ws ++ List.replicate N 0) = wrow ws ++ wrow (List.replicate N 0) from List.map_append]
  exact e2
end
end Go.Proofs.Ytpjnefnngmlpjaa
