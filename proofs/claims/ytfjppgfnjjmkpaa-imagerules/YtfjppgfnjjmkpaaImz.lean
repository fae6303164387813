/-
  A part's keys grow.
-/
import Derived.Test.YtfjppgfnjjmkpaaImy
namespace Go.Proofs.Ytfjppgfnjjmkpaa
open Go.RowKit Go.Sort

def Pt.keysV (p : Pt) (ka : Option Addr) (kl kc : Nat) (ks : List Rg) : Pt := ⟨p.name, p.code, p.data, ka, kl, kc, p.sa, p.sl, p.sc, ks, p.ss⟩
theorem SndFin.keyblk {w V : World} {v : Value} {ps : List Pt} {n j kb sb : Nat} (h : SndFin w V v ps n) (hp : ps[j]? = some (sndP j kb sb)) : V.heap[kb]? = some (.cells (sndKs j) 25) := by
  obtain ⟨kb', sb', e, e2, _⟩ := h.pts j _ hp
  have e3 := congrArg Pt.ka e
  have e4 : kb = kb' := by
    have := Option.some.inj e3
    exact congrArg Addr.block this
  rw [e4]
  exact e2
theorem own_one {w : World} {base kb : Nat} {r : Rg} (h : w.heap[kb]? = some (.cells #[.int .u32 r.lo, .int .u32 r.hi, .bool r.x, .bool r.w] 25)) (hb : base ≤ kb) : w.ownsRow base 25 4 (.slice (some ⟨kb, 0, none⟩) 1 1) 1 (regrow [r]) :=
  ⟨rfl, .inr ⟨kb, 1, _, rfl, hb, h, Nat.le_refl _, by unfold maxLen; omega, rfl, rfl⟩⟩
theorem regrow_kc : ∀ (l : List Rg) (q : Nat) (r : Rg) (j : Nat) (v : Value), l[q]? = some r → (kcell r)[j]? = some v → (regrow l)[q * 4 + j]? = some v
  | [], _, _, _, _, h, _ => by cases h
  | a :: l, 0, r, j, v, h, hv => by
    cases h
    have hj : j < 4 := (List.getElem?_eq_some_iff.1 hv).1
    show (rgC a ++ regrow l)[0 * 4 + j]? = some v
    rw [Nat.zero_mul, Nat.zero_add, List.getElem?_append_left (by exact hj)]
    exact hv
  | a :: l, q + 1, r, j, v, h, hv => by
    show (rgC a ++ regrow l)[(q + 1) * 4 + j]? = some v
    have hl : (rgC a).length = 4 := rfl
    rw [List.getElem?_append_right (by rw [hl]; omega), hl, show (q + 1) * 4 + j - 4 = q * 4 + j by omega]
    exact regrow_kc l q r j v h hv
theorem RuM.grow {w V V3 W4 : World} {ex : Nat → Obj → Prop} {B g : Nat} {J : Im} {kb sb : Nat → Nat} (h : RuM w V ex B g J kb sb) {q n : Nat} {p : Pt} {v v' : Value} {ks : List Rg} (hq : J.ps[q]? = some p) (hvb : v.ownBlock = some (kb q)) (hV : Below V.heap.size V V3)
    (hg : V3.grownBy W4 v.ownBlock) (ho : W4.ownsRow w.heap.size 25 4 v' n (regrow ks)) (hn : n = ks.length) (h0 : 0 < n) (hb : v'.ownBlock = v.ownBlock ∨ v'.ownBlock = some V3.heap.size) :
    ∃ nb cap, v' = .slice (some ⟨nb, 0, none⟩) n cap ∧ ∀ J' : Im, J'.cells = J.cells → J'.ps = J.ps.set q (p.keysV (some ⟨nb, 0, none⟩) n cap ks) → J'.pa = J.pa →
      RuM w (W4.setCell ⟨g, q * 11 + 9, none⟩ v') ex B g J' (fun i => if i = q then nb else kb i) sb ∧ (W4.setCell ⟨g, q * 11 + 9, none⟩ v').ownsRow w.heap.size 25 4 v' n (regrow ks) := by
  have h3 := h.below hV
  have ql : q < J.ps.length := (List.getElem?_eq_some_iff.1 hq).1
  obtain ⟨hlen, ⟨_, hh⟩ | ⟨nb, cap, cur, rfl, hnB, hcur, hnc, hcm, hsz, htk⟩⟩ := id ho
  · omega
  refine ⟨nb, cap, rfl, fun J' hJ hps hpa => ?_⟩
  obtain ⟨⟨G, hG, hr⟩, hk, hs, hne⟩ := h3.ps
  have hl : J'.ps.length = J.ps.length := by rw [hps, List.length_set]
  have fresh : nb = kb q ∨ nb = V3.heap.size := by
    rcases hb with e | e
    · rw [hvb] at e
      exact .inl (Option.some.inj e)
    · exact .inr (Option.some.inj e)
  have lt3 := h3.ps.lt
  have ltk := (lt3.2 q ql).1
  have keep4 : ∀ b, b < V3.heap.size → b ≠ kb q → W4.heap[b]? = V3.heap[b]? := fun b hb1 hb2 => hg.block b hb1 (fun e => by rw [hvb] at e; exact hb2 (Option.some.inj e))
  have keep : ∀ b, b < V3.heap.size → b ≠ kb q → b ≠ g → (W4.setCell ⟨g, q * 11 + 9, none⟩ (.slice (some ⟨nb, 0, none⟩) n cap)).heap[b]? = V3.heap[b]? := fun b hb1 hb2 hb3 => by
    rw [Below.heap_setCell _ _ _ _ (show b ≠ g from hb3)]
    exact keep4 b hb1 hb2
  have gk : g ≠ kb q := fun e => (hne q q ql ql).1 e.symm
  have nbne : ∀ b, b < V3.heap.size → b ≠ kb q → nb ≠ b := fun b hb1 hb2 e => by
    rcases fresh with f | f
    · exact hb2 (e ▸ f)
    · omega
  have ng : nb ≠ g := nbne g lt3.1 gk
  have B3 : B < V3.heap.size := (Array.getElem?_eq_some_iff.1 h3.box).1
  have bk : B ≠ kb q := fun e => (h3.gB.2 q ql).1 e.symm
  have hX : (W4.setCell ⟨g, q * 11 + 9, none⟩ (.slice (some ⟨nb, 0, none⟩) n cap)).heap[nb]? = some (.cells cur 25) := by
    rw [Below.heap_setCell _ _ _ _ (show nb ≠ g from ng)]
    exact hcur
  have low4 : Below w.heap.size w W4 := by
    rw [hvb] at hg
    exact below_grown h3.low hg h3.low.size (h3.gw.2 q ql).1
  have kbi : ∀ i, i ≠ q → i < J.ps.length → kb i ≠ kb q := fun i hi hl => ((hne i q hl ql).2.2.2 hi).1
  refine ⟨⟨low4.setCell h3.gw.1 _, h3.at', ?_, ?_, by rw [hpa]; exact h3.pa, ?_, ?_, ?_⟩, hlen, .inr ⟨nb, cap, cur, rfl, hnB, hX, hnc, hcm, hsz, htk⟩⟩
  · rw [keep B B3 bk (fun e => h3.gB.1 e.symm), hJ]
    exact h3.box
  · rw [hps]
    refine ⟨⟨_, heap_setCell_at _ (by rw [keep4 g lt3.1 gk]; exact hG), fun i r hi j u hu => ?_⟩, fun i r hi => ?_, fun i r hi => ?_, fun i j hi hj => ?_⟩
    · rw [Array.getElem?_setIfInBounds]
      have hj : j < 11 := (List.getElem?_eq_some_iff.1 hu).1
      rcases set_at hi with ⟨rfl, rfl, _⟩ | ⟨hne', hi'⟩
      · by_cases e : j = 9
        · subst e
          rw [if_pos rfl, if_pos ((Array.getElem?_eq_some_iff.1 (hr i p hq 9 _ (List.getElem?_eq_getElem (by rw [pt_len]; omega)))).1)]
          exact hu
        · rw [if_neg (by omega)]
          refine hr i p hq j u ?_
          have e10 : j = 0 ∨ j = 1 ∨ j = 2 ∨ j = 3 ∨ j = 4 ∨ j = 5 ∨ j = 6 ∨ j = 7 ∨ j = 8 ∨ j = 10 := by omega
          rcases e10 with rfl | rfl | rfl | rfl | rfl | rfl | rfl | rfl | rfl | rfl <;> exact hu
      · rw [if_neg (by omega)]
        exact hr i r hi' j u hu
    · rcases set_at hi with ⟨rfl, rfl, _⟩ | ⟨hne', hi'⟩
      · refine ⟨hn, fun _ => by rw [if_pos rfl]; rfl, cur, by rw [if_pos rfl]; exact hX, fun t s hs j u hu => ?_⟩
        have hts := regrow_kc ks t s j u hs hu
        rw [← htk, List.getElem?_take] at hts
        split at hts
        · rw [← Array.getElem?_toList]
          exact hts
        · cases hts
      · have hil := (List.getElem?_eq_some_iff.1 hi').1
        have e : (if i = q then nb else kb i) = kb i := if_neg hne'
        rw [e]
        exact (hk i r hi').keep (keep _ (lt3.2 i hil).1 (kbi i hne' hil) (hne i i hil hil).1)
    · rcases set_at hi with ⟨rfl, rfl, _⟩ | ⟨hne', hi'⟩
      · obtain ⟨a1, a2, L, a3, a4⟩ := (hs i p hq).keep (keep _ (lt3.2 i ql).2 (fun e => (hne i i ql ql).2.2.1 e.symm) (hne i i ql ql).2.1)
        exact ⟨a1, a2, L, a3, a4⟩
      · have hil := (List.getElem?_eq_some_iff.1 hi').1
        exact (hs i r hi').keep (keep _ (lt3.2 i hil).2 (fun e => (hne q i ql hil).2.2.1 e.symm) (hne i i hil hil).2.1)
    · rw [List.length_set] at hi hj
      obtain ⟨n1, n2, n3, n4⟩ := hne i j hi hj
      by_cases e : i = q
      · subst e
        refine ⟨by show (if i = i then nb else kb i) ≠ g; rw [if_pos rfl]; exact ng, n2, ?_, fun e' => ⟨?_, (n4 e').2⟩⟩
        · show (if i = i then nb else kb i) ≠ sb j
          rw [if_pos rfl]
          exact nbne _ (lt3.2 j hj).2 (fun e2 => (hne i j hi hj).2.2.1 e2.symm)
        · show (if i = i then nb else kb i) ≠ (if j = i then nb else kb j)
          rw [if_pos rfl, if_neg (fun e2 => e' e2.symm)]
          exact nbne _ (lt3.2 j hj).1 (kbi j (fun e2 => e' e2.symm) hj)
      · refine ⟨by show (if i = q then nb else kb i) ≠ g; rw [if_neg e]; exact n1, n2, by show (if i = q then nb else kb i) ≠ sb j; rw [if_neg e]; exact n3, fun e' => ⟨?_, (n4 e').2⟩⟩
        show (if i = q then nb else kb i) ≠ (if j = q then nb else kb j)
        rw [if_neg e]
        by_cases e3 : j = q
        · rw [if_pos e3]
          exact fun e4 => nbne _ (lt3.2 i hi).1 (kbi i e hi) e4.symm
        · rw [if_neg e3]
          exact (n4 e').1
  · rw [hl]
    refine ⟨h3.gB.1, fun j hj => ⟨?_, (h3.gB.2 j hj).2⟩⟩
    show (if j = q then nb else kb j) ≠ B
    split
    · exact nbne B B3 bk
    · exact (h3.gB.2 j hj).1
  · rw [hl]
    refine ⟨h3.gw.1, fun j hj => ⟨?_, (h3.gw.2 j hj).2⟩⟩
    show w.heap.size ≤ (if j = q then nb else kb j)
    split
    · exact hnB
    · exact (h3.gw.2 j hj).1
  · intro D ob hd
    obtain ⟨a, b, c, d⟩ := h3.exk D ob hd
    have dl : D < V3.heap.size := (Array.getElem?_eq_some_iff.1 a).1
    have dk : D ≠ kb q := fun e => (d q ql).1 e.symm
    refine ⟨by rw [keep D dl dk c]; exact a, b, c, ?_⟩
    rw [hl]
    refine fun j hj => ⟨?_, (d j hj).2⟩
    show (if j = q then nb else kb j) ≠ D
    split
    · exact nbne D dl dk
    · exact (d j hj).1
theorem run_app_rg {V3 : World} {ty : TypeId} {base n b0 : Nat} {v : Value} {xs : List Value} {r : Rg} (hown : V3.ownsRow base 25 4 v n xs) (hbase : base ≤ V3.heap.size) (h0 : V3.heap[b0]? = some (.cells #[.int .u32 r.lo, .int .u32 r.hi, .bool r.x, .bool r.w] 25)) (hn : n ≤ 100000) :
    ∃ v' W4, (Builtin.append_ #[37, 37] ty #[v, .slice (some ⟨b0, 0, none⟩) 1 1]).run Try.prog V3 = .ok v' W4 ∧ W4.ownsRow base 25 4 v' (n + 1) (xs ++ rgC r) ∧ V3.grownBy W4 v.ownBlock ∧ (v'.ownBlock = v.ownBlock ∨ v'.ownBlock = some V3.heap.size) := by
  obtain ⟨i0, hi0, hz0, hz1, hz2⟩ := info_parts infoRr
  obtain ⟨v', W4, hrun, ho, hg, _, hb⟩ := run_append_own_at (P := Try.prog) V3 base 37 ty 25 i0 _ 4 12 Try.underlying37 hi0 hz0 hz1 hz2 rfl (by decide) v n _ hown ⟨b0, 0, none⟩ 1 1 (rgC r) rfl (fun a u hu => by
          rw [show (⟨b0, 0, none⟩ : Addr).add a = ⟨b0, a, none⟩ by rw [Addr.add_lit]; simp]
          exact (cells_of h0).1 a u (by rw [← Array.getElem?_toList]; exact hu)) (fun u hu => by
          simp [rgC] at hu
          rcases hu with rfl | rfl | rfl | rfl <;> rfl) (by unfold maxLen; omega) (by omega) hbase
  exact ⟨v', W4, hrun, ho, hg, hb⟩
theorem wp_app {P : Program} {ops : Array Oper} {rest : List Oper} {Q : Exit → Act → World → Prop} {o : Oper} {a : Act} {w w1 : World} {s x : Operand} {t1 t2 : TypeId} {vs vx v' : Value} (hgd : o.guard = none) (ho : o.op = .call { callee := .builtin .append, args := #[s, x], argTypes := #[t1, t2] }) (hs : a.eval s = vs) (hx : a.eval x = vx) (hr : (Builtin.append_ #[t1, t2] o.type #[vs, vx]).run P w = .ok v' w1) (h : wpList P ops Q rest (a.put o.dst v') w1) : wpList P ops Q (o :: rest) a w :=
  wpList_plain hgd fun K hK => by
    unfold Oper.wp
    rw [run_app2 ho hs hx hr]
    exact hK _ _ h
theorem set_ten {V : World} {B : Nat} {t : TypeId} {a0 a1 a2 a3 a4 a5 a6 a7 a8 a9 o0 o1 o2 o3 o4 o5 o6 o7 o8 o9 : Value} (h : V.heap[B]? = some (.cells #[o0, o1, o2, o3, o4, o5, o6, o7, o8, o9] t)) : (V.setCells B 0 [a0, a1, a2, a3, a4, a5, a6, a7, a8, a9]).heap[B]? = some (.cells #[a0, a1, a2, a3, a4, a5, a6, a7, a8, a9] t) := by
  have h0 : (V.setCell ⟨B, 0, none⟩ a0).heap[B]? = some (.cells #[a0, o1, o2, o3, o4, o5, o6, o7, o8, o9] t) := by
    rw [heap_setCell_at a0 h]
    rfl
  have h1 : ((V.setCell ⟨B, 0, none⟩ a0).setCell ⟨B, 0 + 1, none⟩ a1).heap[B]? = some (.cells #[a0, a1, o2, o3, o4, o5, o6, o7, o8, o9] t) := by
    rw [heap_setCell_at a1 h0]
    rfl
  have h2 : (((V.setCell ⟨B, 0, none⟩ a0).setCell ⟨B, 0 + 1, none⟩ a1).setCell ⟨B, 0 + 1 + 1, none⟩ a2).heap[B]? = some (.cells #[a0, a1, a2, o3, o4, o5, o6, o7, o8, o9] t) := by
    rw [heap_setCell_at a2 h1]
    rfl
  have h3 : ((((V.setCell ⟨B, 0, none⟩ a0).setCell ⟨B, 0 + 1, none⟩ a1).setCell ⟨B, 0 + 1 + 1, none⟩ a2).setCell ⟨B, 0 + 1 + 1 + 1, none⟩ a3).heap[B]? = some (.cells #[a0, a1, a2, a3, o4, o5, o6, o7, o8, o9] t) := by
    rw [heap_setCell_at a3 h2]
    rfl
  have h4 : (((((V.setCell ⟨B, 0, none⟩ a0).setCell ⟨B, 0 + 1, none⟩ a1).setCell ⟨B, 0 + 1 + 1, none⟩ a2).setCell ⟨B, 0 + 1 + 1 + 1, none⟩ a3).setCell ⟨B, 0 + 1 + 1 + 1 + 1, none⟩ a4).heap[B]? = some (.cells #[a0, a1, a2, a3, a4, o5, o6, o7, o8, o9] t) := by
    rw [heap_setCell_at a4 h3]
    rfl
  have h5 : ((((((V.setCell ⟨B, 0, none⟩ a0).setCell ⟨B, 0 + 1, none⟩ a1).setCell ⟨B, 0 + 1 + 1, none⟩ a2).setCell ⟨B, 0 + 1 + 1 + 1, none⟩ a3).setCell ⟨B, 0 + 1 + 1 + 1 + 1, none⟩ a4).setCell ⟨B, 0 + 1 + 1 + 1 + 1 + 1, none⟩ a5).heap[B]? = some (.cells #[a0, a1, a2, a3, a4, a5, o6, o7, o8, o9] t) := by
    rw [heap_setCell_at a5 h4]
    rfl
  have h6 : (((((((V.setCell ⟨B, 0, none⟩ a0).setCell ⟨B, 0 + 1, none⟩ a1).setCell ⟨B, 0 + 1 + 1, none⟩ a2).setCell ⟨B, 0 + 1 + 1 + 1, none⟩ a3).setCell ⟨B, 0 + 1 + 1 + 1 + 1, none⟩ a4).setCell ⟨B, 0 + 1 + 1 + 1 + 1 + 1, none⟩ a5).setCell ⟨B, 0 + 1 + 1 + 1 + 1 + 1 + 1, none⟩ a6).heap[B]? = some (.cells #[a0, a1, a2, a3, a4, a5, a6, o7, o8, o9] t) := by
    rw [heap_setCell_at a6 h5]
    rfl
  have h7 : ((((((((V.setCell ⟨B, 0, none⟩ a0).setCell ⟨B, 0 + 1, none⟩ a1).setCell ⟨B, 0 + 1 + 1, none⟩ a2).setCell ⟨B, 0 + 1 + 1 + 1, none⟩ a3).setCell ⟨B, 0 + 1 + 1 + 1 + 1, none⟩ a4).setCell ⟨B, 0 + 1 + 1 + 1 + 1 + 1, none⟩ a5).setCell ⟨B, 0 + 1 + 1 + 1 + 1 + 1 + 1, none⟩ a6).setCell ⟨B, 0 + 1 + 1 + 1 + 1 + 1 + 1 + 1, none⟩ a7).heap[B]? = some (.cells #[a0, a1, a2, a3, a4, a5, a6, a7, o8, o9] t) := by
    rw [heap_setCell_at a7 h6]
    rfl
  have h8 : (((((((((V.setCell ⟨B, 0, none⟩ a0).setCell ⟨B, 0 + 1, none⟩ a1).setCell ⟨B, 0 + 1 + 1, none⟩ a2).setCell ⟨B, 0 + 1 + 1 + 1, none⟩ a3).setCell ⟨B, 0 + 1 + 1 + 1 + 1, none⟩ a4).setCell ⟨B, 0 + 1 + 1 + 1 + 1 + 1, none⟩ a5).setCell ⟨B, 0 + 1 + 1 + 1 + 1 + 1 + 1, none⟩ a6).setCell ⟨B, 0 + 1 + 1 + 1 + 1 + 1 + 1 + 1, none⟩ a7).setCell ⟨B, 0 + 1 + 1 + 1 + 1 + 1 + 1 + 1 + 1, none⟩ a8).heap[B]? = some (.cells #[a0, a1, a2, a3, a4, a5, a6, a7, a8, o9] t) := by
    rw [heap_setCell_at a8 h7]
    rfl
  have h9 : ((((((((((V.setCell ⟨B, 0, none⟩ a0).setCell ⟨B, 0 + 1, none⟩ a1).setCell ⟨B, 0 + 1 + 1, none⟩ a2).setCell ⟨B, 0 + 1 + 1 + 1, none⟩ a3).setCell ⟨B, 0 + 1 + 1 + 1 + 1, none⟩ a4).setCell ⟨B, 0 + 1 + 1 + 1 + 1 + 1, none⟩ a5).setCell ⟨B, 0 + 1 + 1 + 1 + 1 + 1 + 1, none⟩ a6).setCell ⟨B, 0 + 1 + 1 + 1 + 1 + 1 + 1 + 1, none⟩ a7).setCell ⟨B, 0 + 1 + 1 + 1 + 1 + 1 + 1 + 1 + 1, none⟩ a8).setCell ⟨B, 0 + 1 + 1 + 1 + 1 + 1 + 1 + 1 + 1 + 1, none⟩ a9).heap[B]? = some (.cells #[a0, a1, a2, a3, a4, a5, a6, a7, a8, a9] t) := by
    rw [heap_setCell_at a9 h8]
    rfl
  unfold World.setCells World.setCells World.setCells World.setCells World.setCells World.setCells World.setCells World.setCells World.setCells World.setCells World.setCells
  exact h9
theorem ru_nine {w W V2 : World} {B D g pc g9 pc9 : Nat} {kb sb kb9 sb9 : Nat → Nat} {ps9 : List Pt} (h : RuSt w W B D g pc kb sb) (hl : Below W.heap.size W V2) (hn : ps9.length = 9) (hi : ImB V2 g9 ps9 kb9 sb9) (hj : ∀ (j : Nat) p, ps9[j]? = some p → p = sndP j (kb9 j) (sb9 j) ∧ W.heap.size + 4 ≤ kb9 j ∧ W.heap.size + 4 ≤ sb9 j) (hg : W.heap.size + 4 ≤ g9) :
    RuEnd w (V2.setCells B 0 (sndI W.heap.size (.slice (some ⟨g9, 0, none⟩) 9 pc9)).toList) B D ⟨some ⟨W.heap.size + 1, 0, none⟩, 200, 200, ⟨0, 40, false, false⟩, ⟨40, 200, false, false⟩, some ⟨g9, 0, none⟩, pc9, [sndP 0 (kb9 0) (sb9 0), sndP 1 (kb9 1) (sb9 1), sndP 2 (kb9 2) (sb9 2), sndP 3 (kb9 3) (sb9 3), sndP 4 (kb9 4) (sb9 4), sndP 5 (kb9 5) (sb9 5), sndP 6 (kb9 6) (sb9 6), sndP 7 (kb9 7) (sb9 7), sndP 8 (kb9 8) (sb9 8)]⟩ := by
  have hB : B < W.heap.size := (Array.getElem?_eq_some_iff.1 h.box).1
  have hD : D < W.heap.size := (Array.getElem?_eq_some_iff.1 h.wnt).1
  have low : Below w.heap.size w V2 := below_step h.low hl
  refine ⟨below_setCells h.at' _ _ _ low, ?_, ?_, g9, 0, ?_⟩
  · exact set_ten (kept_on h.box hl)
  · rw [heap_setCells_other _ _ _ h.db]
    exact kept_on h.wnt hl
  · have e : ps9 = [sndP 0 (kb9 0) (sb9 0), sndP 1 (kb9 1) (sb9 1), sndP 2 (kb9 2) (sb9 2), sndP 3 (kb9 3) (sb9 3), sndP 4 (kb9 4) (sb9 4), sndP 5 (kb9 5) (sb9 5), sndP 6 (kb9 6) (sb9 6), sndP 7 (kb9 7) (sb9 7), sndP 8 (kb9 8) (sb9 8)] := by
      have e0 : ps9 = (List.range 9).map fun j => sndP j (kb9 j) (sb9 j) := by
        apply List.ext_getElem?
        intro i
        by_cases h9 : i < 9
        · have hs : ps9[i]? = some ps9[i] := List.getElem?_eq_getElem (by omega)
          rw [hs, List.getElem?_map, List.getElem?_range h9]
          exact congrArg some (hj i _ hs).1
        · rw [List.getElem?_eq_none (by omega), List.getElem?_eq_none (by simp; omega)]
      exact e0
    show PartsAt _ g9 0 (some ⟨g9, 0, none⟩) [sndP 0 (kb9 0) (sb9 0), sndP 1 (kb9 1) (sb9 1), sndP 2 (kb9 2) (sb9 2), sndP 3 (kb9 3) (sb9 3), sndP 4 (kb9 4) (sb9 4), sndP 5 (kb9 5) (sb9 5), sndP 6 (kb9 6) (sb9 6), sndP 7 (kb9 7) (sb9 7), sndP 8 (kb9 8) (sb9 8)]
    rw [← e]
    have keep : ∀ q, q ≠ B → (V2.setCells B 0 (sndI W.heap.size (.slice (some ⟨g9, 0, none⟩) 9 pc9)).toList).heap[q]? = V2.heap[q]? := fun q hq => heap_setCells_other _ _ _ hq
    obtain ⟨⟨G, hG, hr⟩, hk, hs, hne⟩ := hi
    refine ImB.parts (kb := kb9) (sb := sb9) ⟨⟨G, by rw [keep g9 (by omega)]; exact hG, hr⟩, fun i p hp => (hk i p hp).keep (keep _ ?_), fun i p hp => (hs i p hp).keep (keep _ ?_), hne⟩
    · have := hj i p hp
      omega
    · have := hj i p hp
      omega
def nilP (j kb sb : Nat) : Pt := (sndP j kb sb).keysV none 0 0 []
def ps23 (k : Nat) (kb sb : Nat → Nat) : List Pt := [if 0 < k then nilP 0 (kb 0) (sb 0) else sndP 0 (kb 0) (sb 0), if 1 < k then nilP 1 (kb 1) (sb 1) else sndP 1 (kb 1) (sb 1), if 2 < k then nilP 2 (kb 2) (sb 2) else sndP 2 (kb 2) (sb 2)]
def im23 (w : World) (g pc k : Nat) (kb sb : Nat → Nat) : Im := ⟨some ⟨w.heap.size + 1, 0, none⟩, 200, 200, ⟨0, 40, false, false⟩, ⟨220, 220, false, false⟩, some ⟨g, 0, none⟩, pc, ps23 k kb sb⟩
theorem ru_nil {w V : World} {ex : Nat → Obj → Prop} {B g pc k : Nat} {kb sb : Nat → Nat} (h : RuM w V ex B g (im23 w g pc k kb sb) kb sb) (hk : k < 3) : V.cell? ⟨g, k * 11 + 9, none⟩ = some (.slice (some ⟨kb k, 0, none⟩) 1 1) ∧ V.frozen? ⟨g, k * 11 + 9, none⟩ = false ∧ RuM w (V.setCell ⟨g, k * 11 + 9, none⟩ (.slice none 0 0)) ex B g (im23 w g pc (k + 1) kb sb) kb sb := by
  have : k = 0 ∨ k = 1 ∨ k = 2 := by omega
  rcases this with rfl | rfl | rfl
  · exact ⟨(h.ps.cell (q := 0) (c := 9) rfl rfl).1, (h.ps.cell (q := 0) (c := 9) rfl rfl).2, h.setP (q := 0) (c := 9) (nilP 0 (kb 0) (sb 0)) _ _ rfl (by omega) rfl ⟨rfl, rfl, rfl⟩ ⟨rfl, fun h => absurd rfl h, (h.ps.key 0 _ rfl).blk.elim fun K hK => ⟨K, hK.1, fun q r hq => by cases hq⟩⟩ rfl rfl rfl⟩
  · exact ⟨(h.ps.cell (q := 1) (c := 9) rfl rfl).1, (h.ps.cell (q := 1) (c := 9) rfl rfl).2, h.setP (q := 1) (c := 9) (nilP 1 (kb 1) (sb 1)) _ _ rfl (by omega) rfl ⟨rfl, rfl, rfl⟩ ⟨rfl, fun h => absurd rfl h, (h.ps.key 1 _ rfl).blk.elim fun K hK => ⟨K, hK.1, fun q r hq => by cases hq⟩⟩ rfl rfl rfl⟩
  · exact ⟨(h.ps.cell (q := 2) (c := 9) rfl rfl).1, (h.ps.cell (q := 2) (c := 9) rfl rfl).2, h.setP (q := 2) (c := 9) (nilP 2 (kb 2) (sb 2)) _ _ rfl (by omega) rfl ⟨rfl, rfl, rfl⟩ ⟨rfl, fun h => absurd rfl h, (h.ps.key 2 _ rfl).blk.elim fun K hK => ⟨K, hK.1, fun q r hq => by cases hq⟩⟩ rfl rfl rfl⟩
def ks25 (k : Nat) : List Rg := ⟨56, 72, false, false⟩ :: (List.range k).map fun (j : Nat) => ⟨88 + 16 * (j : Int), 104 + 16 * (j : Int), false, false⟩
theorem ks25_next (k : Nat) : ks25 (k + 1) = ks25 k ++ [⟨88 + 16 * (k : Int), 104 + 16 * (k : Int), false, false⟩] := by
  unfold ks25
  rw [List.range_succ]
  simp
theorem ks25_len (k : Nat) : (ks25 k).length = k + 1 := by simp [ks25]
def im25 (w : World) (g pc k nb cap : Nat) (kb sb : Nat → Nat) : Im := ruIm w g pc [sndP 0 (kb 0) (sb 0), (sndP 1 (kb 1) (sb 1)).keysV (some ⟨nb, 0, none⟩) (k + 1) cap (ks25 k), sndP 2 (kb 2) (sb 2)]
structure Six (w V : World) (ex : Nat → Obj → Prop) (B g pc k nb cap : Nat) (kb sb : Nat → Nat) : Prop where
  m : ∃ kx, kx 1 = nb ∧ RuM w V ex B g (im25 w g pc k nb cap kb sb) kx sb
  own : V.ownsRow w.heap.size 25 4 (.slice (some ⟨nb, 0, none⟩) (k + 1) cap) (k + 1) (regrow (ks25 k))
theorem regrow_app (l m : List Rg) : regrow (l ++ m) = regrow l ++ regrow m := by simp [regrow, List.flatMap_append]
theorem six_next {w V V3 W4 : World} {ex : Nat → Obj → Prop} {B g pc k nb cap : Nat} {kb sb : Nat → Nat} {v' : Value} (h : Six w V ex B g pc k nb cap kb sb) (hV : Below V.heap.size V V3) (ho : W4.ownsRow w.heap.size 25 4 v' (k + 1 + 1) (regrow (ks25 k) ++ rgC ⟨88 + 16 * (k : Int), 104 + 16 * (k : Int), false, false⟩))
    (hg : V3.grownBy W4 (some nb)) (hb : v'.ownBlock = some nb ∨ v'.ownBlock = some V3.heap.size) : ∃ nb' cap', v' = .slice (some ⟨nb', 0, none⟩) (k + 1 + 1) cap' ∧ Six w (W4.setCell ⟨g, 20, none⟩ v') ex B g pc (k + 1) nb' cap' kb sb ∧ W4.cell? ⟨g, 20, none⟩ = some (.slice (some ⟨nb, 0, none⟩) (k + 1 : Nat) cap) ∧ W4.frozen? ⟨g, 20, none⟩ = false := by
  obtain ⟨⟨kx, rfl, hm⟩, hown⟩ := h
  have e : regrow (ks25 k) ++ rgC ⟨88 + 16 * (k : Int), 104 + 16 * (k : Int), false, false⟩ = regrow (ks25 (k + 1)) := by
    rw [ks25_next, regrow_app]
    simp [regrow]
  rw [e] at ho
  obtain ⟨nb', cap', rfl, hr⟩ := hm.grow (q := 1) (v := .slice (some ⟨kx 1, 0, none⟩) (k + 1) cap) rfl rfl hV hg ho (by rw [ks25_len]) (by omega) hb
  obtain ⟨r1, r2⟩ := hr (im25 w g pc (k + 1) nb' cap' kb sb) rfl rfl rfl
  obtain ⟨⟨G, hG, hrr⟩, _, _, hne⟩ := hm.ps
  have hG3 := kept_on hG hV
  have hG4 : W4.heap[g]? = some (.cells G 40) := by
    rw [hg.block g (Array.getElem?_eq_some_iff.1 hG3).1 (fun e => (hne 1 1 (by show 1 < 3; omega) (by show 1 < 3; omega)).1 (Option.some.inj e.symm))]
    exact hG3
  exact ⟨nb', cap', rfl, ⟨⟨_, by rw [if_pos rfl], r1⟩, r2⟩, (cells_of hG4).1 20 _ (hrr 1 _ rfl 9 _ rfl), (cells_of hG4).2.1 20⟩
theorem Six.cell {w V : World} {ex : Nat → Obj → Prop} {B g pc k nb cap : Nat} {kb sb : Nat → Nat} (h : Six w V ex B g pc k nb cap kb sb) : V.cell? ⟨g, 20, none⟩ = some (.slice (some ⟨nb, 0, none⟩) (k + 1 : Nat) cap) ∧ V.frozen? ⟨g, 20, none⟩ = false := by
  obtain ⟨⟨kx, _, hm⟩, _⟩ := h
  exact ⟨(hm.ps.cell (q := 1) (c := 9) rfl rfl).1, (hm.ps.cell (q := 1) (c := 9) rfl rfl).2⟩
end Go.Proofs.Ytfjppgfnjjmkpaa
