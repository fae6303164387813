/-
  Package asm: the writer, and put.
-/
import Derived.Test.YtpjnefnngmlpjaaAsi
import Derived.Test.YtpjnefnngmlpjaaCodey
import Derived.Maps.AppendAt
namespace Go.Proofs.Ytpjnefnngmlpjaa
open Go.RowKit

def wrow (ws : List Int) : List Value := ws.map (Value.int .u32 ·)
def srow : List (ByteArray × Int) → List Value
  | [] => []
  | s :: ss => [.string s.1, .int .u32 s.2] ++ srow ss
theorem infoU : (Try.prog.info? 22).map (fun i => (i.zero, i.size, i.bytes)) = some (some (.int .u32 0), 1, 4) := by kernel_rfl
/-- A writer: its program at pb, starts at gb, its words, its labels; all that it lays lies from B on. -/
structure WrAt (w : World) (wb pb gb B n : Nat) (sf : Nat → Int) (wv sv : Value) (ws : List Int) (ss : List (ByteArray × Int)) : Prop where
  blk : w.heap[wb]? = some (.cells #[.pointer (some ⟨pb, 0, none⟩), .slice (some ⟨gb, 0, none⟩) n n, wv, sv] 113)
  st : w.heap[gb]? = some (.cells (intsF n sf) 3)
  words : w.ownsRow B 22 1 wv ws.length (wrow ws)
  syms : w.ownsRow B 59 2 sv ss.length (srow ss)
  apart : ∀ k, wv.ownBlock = some k → sv.ownBlock = some k → False
  wl : wb < B
  gl : gb < B
  bl : B ≤ w.heap.size
  ne : wb ≠ gb
theorem owns_below {w w' : World} {B : Nat} {t : TypeId} {sz n : Nat} {v : Value} {l : List Value} (h : w.ownsRow B t sz v n l) (hb : Below w.heap.size w w') : w'.ownsRow B t sz v n l := by
  obtain ⟨h1, h2 | ⟨g, cap, cur, e1, e2, e3, e4, e5, e6, e7⟩⟩ := h
  · exact ⟨h1, .inl h2⟩
  · exact ⟨h1, .inr ⟨g, cap, cur, e1, e2, kept_on e3 hb, e4, e5, e6, e7⟩⟩
theorem owns_set {w : World} {B b i : Nat} {x : Value} {t : TypeId} {sz n : Nat} {v : Value} {l : List Value} (h : w.ownsRow B t sz v n l) (hb : b < B) : (w.setCell ⟨b, i, none⟩ x).ownsRow B t sz v n l := by
  obtain ⟨h1, h2 | ⟨g, cap, cur, e1, e2, e3, e4, e5, e6, e7⟩⟩ := h
  · exact ⟨h1, .inl h2⟩
  · exact ⟨h1, .inr ⟨g, cap, cur, e1, e2, (Below.heap_setCell _ _ _ _ (show g ≠ b by omega)).trans e3, e4, e5, e6, e7⟩⟩
theorem owns_grown {w w' : World} {B : Nat} {r : Option Nat} {t : TypeId} {sz n : Nat} {v : Value} {l : List Value} (h : w.ownsRow B t sz v n l) (hg : w.grownBy w' r) (ha : ∀ k, r = some k → v.ownBlock = some k → False) : w'.ownsRow B t sz v n l := by
  obtain ⟨h1, h2 | ⟨g, cap, cur, e1, e2, e3, e4, e5, e6, e7⟩⟩ := h
  · exact ⟨h1, .inl h2⟩
  · refine ⟨h1, .inr ⟨g, cap, cur, e1, e2, ?_, e4, e5, e6, e7⟩⟩
    rw [hg.block g (Array.getElem?_eq_some_iff.1 e3).1 (fun e => ha g e.symm (by rw [e1]; rfl))]
    exact e3
theorem owns_lt {w : World} {B : Nat} {t : TypeId} {sz n : Nat} {v : Value} {l : List Value} (h : w.ownsRow B t sz v n l) (k : Nat) (hk : v.ownBlock = some k) : B ≤ k ∧ k < w.heap.size := by
  obtain ⟨_, ⟨e, _⟩ | ⟨g, cap, cur, e1, e2, e3, _⟩⟩ := h
  · rw [e] at hk; cases hk
  · rw [e1] at hk
    cases hk
    exact ⟨e2, (Array.getElem?_eq_some_iff.1 e3).1⟩
section
variable {w w' : World} {wb pb gb B n : Nat} {sf : Nat → Int} {wv sv : Value} {ws : List Int} {ss : List (ByteArray × Int)}
theorem WrAt.below (h : WrAt w wb pb gb B n sf wv sv ws ss) (hb : Below w.heap.size w w') : WrAt w' wb pb gb B n sf wv sv ws ss :=
  ⟨kept_on h.blk hb, kept_on h.st hb, owns_below h.words hb, owns_below h.syms hb, h.apart, h.wl, h.gl, Nat.le_trans h.bl hb.size, h.ne⟩
/-- Words have been put behind those that there were, and the writer knows. -/
theorem WrAt.more {w1 : World} {v' : Value} {new : List Int} (h : WrAt w wb pb gb B n sf wv sv ws ss) (ho : w1.ownsRow B 22 1 v' (ws.length + new.length) (wrow ws ++ wrow new)) (hg : w.grownBy w1 wv.ownBlock) (hv : v'.ownBlock = wv.ownBlock ∨ v'.ownBlock = some w.heap.size) :
    WrAt (w1.setCell ⟨wb, 2, none⟩ v') wb pb gb B n sf v' sv (ws ++ new) ss := by
  have nw : ∀ k, k < B → wv.ownBlock ≠ some k := fun k hk e => by have := (owns_lt h.words k e).1; omega
  have hwl := h.wl
  have hgl := h.gl
  have hbl := h.bl
  have b1 : w1.heap[wb]? = some (.cells #[.pointer (some ⟨pb, 0, none⟩), .slice (some ⟨gb, 0, none⟩) n n, wv, sv] 113) := by
    rw [hg.block wb (by omega) (fun e => nw wb hwl e.symm)]
    exact h.blk
  have g1 : w1.heap[gb]? = some (.cells (intsF n sf) 3) := by
    rw [hg.block gb (by omega) (fun e => nw gb hgl e.symm)]
    exact h.st
  have hne := h.ne
  refine ⟨heap_setCell_at v' b1, (Below.heap_setCell _ _ _ _ (show gb ≠ wb from hne.symm)).trans g1, ?_, owns_set (owns_grown h.syms hg h.apart) hwl, fun k e1 e2 => ?_, hwl, hgl, ?_, hne⟩
  · rw [List.length_append]
    have : wrow (ws ++ new) = wrow ws ++ wrow new := List.map_append
    rw [this]
    exact owns_set ho hwl
  · rcases hv with e | e
    · exact h.apart k (e.symm.trans e1) e2
    · rw [e] at e1
      cases e1
      have := (owns_lt h.syms _ e2).2
      omega
  · show B ≤ (w1.setCell _ _).heap.size
    have : (w1.setCell ⟨wb, 2, none⟩ v').heap.size = w1.heap.size := by simp [World.setCell]
    have := hg.size
    omega
end
/-- What lies below the writer stays. -/
def Low (wb : Nat) (w w' : World) : Prop := ∀ (B0 : Nat) (w0 : World), B0 ≤ wb → Below B0 w0 w → Below B0 w0 w'
set_option maxRecDepth 100000 in
set_option maxHeartbeats 2000000 in
theorem aPut {w : World} {wb pb gb B n : Nat} {sf : Nat → Int} {wv sv : Value} {ws : List Int} {ss : List (ByteArray × Int)} (h : WrAt w wb pb gb B n sf wv sv ws ss) (hn : ws.length ≤ 1000000000) (s : ByteArray) (d a b m : Int) :
    Calls Try.prog 80 #[.pointer (some ⟨wb, 0, none⟩), .agg #[.string s, .int .i64 d, .int .i64 a, .int .i64 b, .int .i32 m]] w fun e w' => e = .returned (.tuple #[]) ∧ ∃ wv', WrAt w' wb pb gb B n sf wv' sv (ws ++ [putN ⟨s.toList, d, a, b, m⟩]) ss ∧ Low wb w w' := by
  have CP : Hid _ := cPut s d a b m
  obtain ⟨x, hx⟩ : ∃ x, x = putN ⟨s.toList, d, a, b, m⟩ := ⟨_, rfl⟩
  rw [← hx]
  rw [← hx] at CP
  generalize putE ⟨s.toList, d, a, b, m⟩ = er at *
  have H0 : Hid _ := h
  obtain ⟨i0, hi0, hz0, hz1, hz2⟩ := info_parts infoU
  have A1 : Hid (Below w.heap.size w (w.alloc (.cells #[.string s, .int .i64 d, .int .i64 a, .int .i64 b, .int .i32 m] 31))) := (Below.refl _ _).alloc (Nat.le_refl _) _
  have HWL : Hid (ws.length ≤ 1000000000) := hn
  have HBW : Hid (B ≤ w.heap.size) := h.bl
  clear h hx hn
  go_enter Try.func80, Try.ntmps80
  go_wp2_with fail
  refine (CP.out _).mono ?_
  rintro e w1 ⟨rfl, b1⟩
  have B1 : Hid _ := below_step A1.out b1
  have H1 := H0.out.below B1.out
  have A2 : Below w1.heap.size w1 (w1.alloc (.cells #[.int .u32 x] 22)) := (Below.refl _ _).alloc (Nat.le_refl _) _
  have B2 : Hid _ := below_step B1.out A2
  have H2 : Hid _ := H1.below A2
  have c2 : w1.cell? ⟨wb, 2, none⟩ = some wv := (cells_of H1.blk).1 2 _ rfl
  have N2 : Hid ((w1.alloc (.cells #[.int .u32 x] 22)).cell? ⟨w1.heap.size, 0, none⟩ = some (.int .u32 x)) := (cells_of (alloc_at w1 (.cells #[.int .u32 x] 22))).1 0 _ rfl
  clear b1 H1 A2 A1 B1 H0 CP
  go_wp2_with (at_builtin; refine wpList_append_own_at _ rfl (.tmp 15) (.tmp 17) 32 rfl B 22 i0 _ 1 4 Try.underlying32 hi0 hz0 hz1 hz2 rfl (by decide) wv ws.length (wrow ws) rfl H2.out.words ⟨w1.heap.size, 0, none⟩ 1 1 [.int .u32 x] rfl rfl ?_ ?_ (by have := HWL.out; unfold maxLen; omega) (by have := HWL.out; omega) H2.out.bl ?_)
  · intro j u hu
    rcases j with _ | j
    · cases hu
      exact N2.out
    · cases hu
  · intro u hu
    simp only [List.mem_cons, List.not_mem_nil, or_false] at hu
    subst hu
    rfl
  · intro v' w3 ho hg _ hv
    have M3 : Hid _ := H2.out.more (new := [x]) ho hg (by rw [World.size_alloc]; exact hv)
    have hvs : ∃ sa n' cp, v' = .slice sa n' cp := by
      obtain ⟨_, ⟨e, _⟩ | ⟨gg, cp, cur, e, _⟩⟩ := ho
      · exact ⟨_, _, _, e⟩
      · exact ⟨_, _, _, e⟩
    have hnw : ∀ k, k < B → wv.ownBlock ≠ some k := fun k hk e => by have := (owns_lt H2.out.words k e).1; omega
    have b3 : w3.heap[wb]? = some (.cells #[.pointer (some ⟨pb, 0, none⟩), .slice (some ⟨gb, 0, none⟩) n n, wv, sv] 113) := by
      have hwl := H2.out.wl
      have hbl := H2.out.bl
      rw [hg.block wb (by omega) (fun e => hnw wb hwl e.symm)]
      exact H2.out.blk
    obtain ⟨ic, ifr, _⟩ := cells_of b3
    have d2 := ic 2 wv rfl
    have f2 := ifr 2
    have LW : Hid (Low wb w (w3.setCell ⟨wb, 2, none⟩ v')) := fun B0 w0 hB hb => by
      have hwl := H2.out.wl
      have hbl := H2.out.bl
      have r1 : Below B0 w0 (w1.alloc (.cells #[.int .u32 x] 22)) := hb.trans (B2.out.mono (by have := HBW.out; omega))
      exact (below_grown (b := wv.ownBlock.getD B) r1 (by
        cases hov : wv.ownBlock with
        | none => exact ⟨hg.os, hg.tape, hg.output, hg.size, fun k hk _ => hg.block k hk (by rw [hov]; simp)⟩
        | some k => rw [hov] at hg; exact hg) (by omega) (by
        cases hov : wv.ownBlock with
        | none => show B0 ≤ B; omega
        | some k => show B0 ≤ k; have := (owns_lt H2.out.words k hov).1; omega)).setCell hB _
    clear ic ifr ho hg hv hnw b3 H2 B2 N2
    obtain ⟨sa', n', cp', rfl⟩ := hvs
    go_wp2
    go_end0
    exact ⟨rfl, _, M3.out, LW.out⟩
end Go.Proofs.Ytpjnefnngmlpjaa
