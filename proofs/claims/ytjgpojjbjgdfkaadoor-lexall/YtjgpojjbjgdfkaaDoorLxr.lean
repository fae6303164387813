/-
  Package lex: All.
-/
import Derived.Test.YtjgpojjbjgdfkaaDoorLxq
namespace Go.Proofs.YtjgpojjbjgdfkaaDoor
open Go.RowKit Go.Sort

structure AllSt (w wr : World) (S : ByteArray) (ev v : Value) (n : Nat) (done : List (Int × ByteArray × Int × Nat)) : Prop where
  rd : Rd w.heap.size wr w.heap.size S
  low : Below w.heap.size w wr
  own : wr.ownsRow (w.heap.size + 1) 33 4 v n (tkrow done)
  err : wr.cell? ⟨1, 0, none⟩ = some ev
theorem owns_base {w : World} {B B' : Nat} {t : TypeId} {sz n : Nat} {v : Value} {l : List Value} (h : w.ownsRow B t sz v n l) (hB : B' ≤ B) : w.ownsRow B' t sz v n l := by
  obtain ⟨h1, h2 | ⟨g, cap, cur, e1, e2, e3⟩⟩ := h
  · exact ⟨h1, .inl h2⟩
  · exact ⟨h1, .inr ⟨g, cap, cur, e1, by omega, e3⟩⟩
theorem tkrow_snoc (l : List (Int × ByteArray × Int × Nat)) (x : Int × ByteArray × Int × Nat) : tkrow (l ++ [x]) = tkrow l ++ tkC x := by
  unfold tkrow
  rw [List.flatMap_append]
  simp
theorem all_step {w wr w2 W5 : World} {S : ByteArray} {ev v v' : Value} {n : Nat} {done : List (Int × ByteArray × Int × Nat)} {x : Int × ByteArray × Int × Nat} {ob ob2 : Obj} (h : AllSt w wr S ev v n done) (h1 : 1 < w.heap.size) (hO : Only w.heap.size wr w2) (hR : Rd w.heap.size w2 w.heap.size S)
    (ho : W5.ownsRow (w.heap.size + 1) 33 4 v' (n + 1) (tkrow done ++ tkC x)) (hg : ((w2.alloc ob).alloc ob2).grownBy W5 v.ownBlock) :
    AllSt w W5 S ev v' (n + 1) (done ++ [x]) ∧ W5.heap[w2.heap.size]? = some ob := by
  have o2 := owns_only h.own hO (Nat.lt_succ_self _)
  have b3 : Below w2.heap.size w2 ((w2.alloc ob).alloc ob2) := box2
  have o4 := owns_below o2 b3
  have r4 := hR.kept b3
  have l2 : Below w.heap.size w w2 := h.low.trans (hO.below (Nat.le_refl _) h.rd.lt)
  have l4 : Below w.heap.size w ((w2.alloc ob).alloc ob2) := below_step l2 b3
  have l5 : Below w.heap.size w W5 := by
    refine l4.trans ⟨hg.os, hg.tape, hg.output, hg.size, fun k hk => hg.block k (by have := l4.size; omega) (fun e => ?_)⟩
    have := owns_block o4 e
    omega
  refine ⟨⟨r4.grow o4 (Nat.lt_succ_self _) hg, l5, by rw [tkrow_snoc]; exact ho, ?_⟩, ?_⟩
  · have hw : w.cell? ⟨1, 0, none⟩ = some ev := by
      have := h.low.cell (show (⟨1, 0, none⟩ : Addr).block < w.heap.size from h1)
      rw [← this]
      exact h.err
    exact (l5.cell (show (⟨1, 0, none⟩ : Addr).block < w.heap.size from h1)).trans hw
  · have hb : ((w2.alloc ob).alloc ob2).heap[w2.heap.size]? = some ob := kept_on (alloc_at w2 ob) ((Below.refl _ _).alloc (Nat.le_refl _) _)
    rw [hg.block _ ((Array.getElem?_eq_some_iff.1 hb).1) (fun e => by have := (owns_block o2 e).2.1; omega)]
    exact hb
theorem allV_step {S : ByteArray} {f p : Nat} {K n : Int} {t : ByteArray} {a E : Nat} (hT : nextT S p = (K, t, n, a, E)) : allV S (f + 1) p = (K, t, n, a) :: if K == 0 || K == 5 then [] else allV S f E := by
  rw [allV, hT]
set_option maxRecDepth 100000 in
set_option maxHeartbeats 4000000 in
theorem lAll {w : World} {S : ByteArray} (hS : S.size ≤ 900000) (ev : Value) (hv : w.cell? ⟨1, 0, none⟩ = some ev) (hev : ev = .nilIface ∨ ∃ te pe, ev = .iface te pe) :
    Calls Tryd.prog 15 #[.string S] w fun e w' => ∃ v n, e = .returned v ∧ n = (allV S (S.size + 1) 0).length ∧ w'.ownsRow w.heap.size 33 4 v n (tkrow (allV S (S.size + 1) 0)) ∧ Below w.heap.size w w' := by
  have hlt : 1 < w.heap.size := Lib.lt_of_cell hv
  have h0 : Hid (AllSt w (w.alloc (.cells #[.string S, .map none] 48)) S ev (.slice none 0 0) 0 []) := by
    have hb : Below w.heap.size w (w.alloc (.cells #[.string S, .map none] 48)) := (Below.refl _ _).alloc (Nat.le_refl _) _
    exact ⟨⟨Nat.le_refl _, none, alloc_at _ _, fun g h => by cases h⟩, hb, ⟨rfl, .inl ⟨rfl, rfl⟩⟩, (hb.cell (show (⟨1, 0, none⟩ : Addr).block < w.heap.size from hlt)).trans hv⟩
  obtain ⟨L, hL⟩ : ∃ L, L = allV S (S.size + 1) 0 := ⟨_, rfl⟩
  have HL : Hid (L = allV S (S.size + 1) 0) := hL
  rw [← hL]
  clear hL hv
  go_enter Tryd.func15, Tryd.ntmps15
  go_wp2_with fail
  go_loopw [4, 5] (fun v x wr => ∃ (p n : Nat) (done : List (Int × ByteArray × Int × Nat)), x = .int .i64 p ∧ p ≤ S.size ∧ n ≤ p ∧ n = done.length ∧ Hid (AllSt w wr S ev v n done) ∧ Hid (L = done ++ allV S (S.size - n + 1) p)) (fun _ x _ => S.size - (intOf x).toNat)
  case atStart => exact ⟨0, 0, [], rfl, Nat.zero_le _, Nat.le_refl _, rfl, h0, HL⟩
  case round =>
    clear h0 HL
    obtain ⟨p, n, done, rfl, hp, hn, hnd, hst, hl⟩ := hrel
    obtain ⟨K, t, m, a, E, hT⟩ : ∃ K t m a E, nextT S p = (K, t, m, a, E) := ⟨_, _, _, _, _, rfl⟩
    obtain ⟨-, -, e3, e4⟩ := nextT_more hp hT
    have hl2 := hl.out
    rw [allV_step hT] at hl2
    have HL2 : Hid (L = done ++ (K, t, m, a) :: if K == 0 || K == 5 then [] else allV S (S.size - n) E) := hl2
    have HT : Hid (nextT S p = (K, t, m, a, E)) := hT
    clear hl2 hl hT
    go_wp2_with fail
    refine Calls.mono (lNext hst.out.rd (by omega) p hp ev hst.out.err hev HT.out) ?_
    rintro e w2 ⟨rfl, hO, hR⟩
    have o2 := owns_only hst.out.own hO (Nat.lt_succ_self _)
    have b3 : Below w2.heap.size w2 ((w2.alloc (.cells (tokC K t m a) 33)).alloc (.cells (tokC K t m a) 33)) := box2
    have k4 : ((w2.alloc (.cells (tokC K t m a) 33)).alloc (.cells (tokC K t m a) 33)).heap[w2.heap.size + 1]? = some (.cells (tokC K t m a) 33) := by
      have := alloc_at (w2.alloc (.cells (tokC K t m a) 33)) (.cells (tokC K t m a) 33)
      rwa [World.size_alloc] at this
    have hrl := hst.out.rd.lt
    have hos := hO.1.size
    have hbs := b3.size
    obtain ⟨v', W5, hrun, ho, hg⟩ := run_app_tk (ty := 29) (x := (K, t, m, a)) (owns_below o2 b3) (by omega) k4 (by omega)
    obtain ⟨st5, k6⟩ := all_step hst.out hlt hO hR ho hg
    have HS : Hid _ := st5
    have HRun : Hid _ := hrun
    obtain ⟨f1, f2, f3, f4, -, -, -, -⟩ := tok_at k6
    clear st5 k6 ho hg k4 b3 o2 hO hR hrl hos hbs hrun
    unfold tokC
    unfold tokC at HRun
    by_cases hK0 : K = 0
    · subst hK0
      have HE : Hid (L = done ++ [(0, t, m, a)]) := HL2.out
      clear HL2 HT e4
      go_wp2_with (refine wp_app' rfl rfl rfl rfl HRun.out ?_)
      go_ret
      exact ⟨_, n + 1, rfl, by rw [HE.out, hnd]; simp, by rw [HE.out]; exact owns_base HS.out.own (Nat.le_succ _), HS.out.low⟩
    · by_cases hK5 : K = 5
      · subst hK5
        have HE : Hid (L = done ++ [(5, t, m, a)]) := HL2.out
        clear HL2 HT e4 hK0
        go_wp2_with (refine wp_app' rfl rfl rfl rfl HRun.out ?_)
        go_ret
        exact ⟨_, n + 1, rfl, by rw [HE.out, hnd]; simp, by rw [HE.out]; exact owns_base HS.out.own (Nat.le_succ _), HS.out.low⟩
      · have hpE := e4 hK0
        have k0 : (K == 0) = false := by simpa using hK0
        have k5 : (K == 5) = false := by simpa using hK5
        have HN : Hid (L = (done ++ [(K, t, m, a)]) ++ allV S (S.size - (n + 1) + 1) E) := by
          have := HL2.out
          rw [k0, k5] at this
          show _ = _
          rw [show S.size - (n + 1) + 1 = S.size - n by omega, this, List.append_assoc]
          rfl
        clear HL2 HT e4
        go_wp2_with (refine wp_app' rfl rfl rfl rfl HRun.out ?_)
        exact ⟨⟨E, n + 1, done ++ [(K, t, m, a)], rfl, e3, by omega, by rw [hnd]; simp, HS, HN⟩, by simp [intOf]; omega⟩
end Go.Proofs.YtjgpojjbjgdfkaaDoor
