/-
  LexRows: tokens stand one behind the other.
-/
import Derived.Test.YtjgpojjbjgdfkaaDoorLpa
import Derived.Test.YtjgpojjbjgdfkaaDoorLtb
import Derived.Test.YtjgpojjbjgdfkaaDoorLxr
import Derived.Test.YtjgpojjbjgdfkaaDoorCame
import Derived.Deep.QuietTactic
import Derived.BigQuiet
namespace Go.Proofs.YtjgpojjbjgdfkaaDoor
open Go.RowKit Go.Sort

theorem tkrow_at (l : List (Int × ByteArray × Int × Nat)) : ∀ (k : Nat) (x : Int × ByteArray × Int × Nat), l[k]? = some x → (tkrow l)[k * 4]? = some (.int .i64 x.1) ∧ (tkrow l)[k * 4 + 1]? = some (.string x.2.1) ∧ (tkrow l)[k * 4 + 2]? = some (.int .u32 x.2.2.1) ∧ (tkrow l)[k * 4 + 3]? = some (.int .i64 x.2.2.2) := by
  induction l with
  | nil => intro k x h; cases h
  | cons y l ih =>
    intro k x h
    cases k with
    | zero =>
      cases h
      exact ⟨rfl, rfl, rfl, rfl⟩
    | succ k =>
      have h' : l[k]? = some x := h
      obtain ⟨a1, a2, a3, a4⟩ := ih k x h'
      have hs : ∀ j, (tkrow (y :: l))[(k + 1) * 4 + j]? = (tkrow l)[k * 4 + j]? := fun j => by
        rw [show (k + 1) * 4 + j = (k * 4 + j) + 4 by omega]
        rfl
      exact ⟨(hs 0).trans a1, (hs 1).trans a2, (hs 2).trans a3, (hs 3).trans a4⟩
theorem own_toks {V : World} {B n : Nat} {v : Value} {l : List (Int × ByteArray × Int × Nat)} (h : V.ownsRow B 33 4 v n (tkrow l)) (hn : n = l.length) :
    ∃ sa cp g, v = .slice sa n cp ∧ (0 < n → sa = some ⟨g, 0, none⟩ ∧ g < V.heap.size) ∧ ∀ i x, l[i]? = some x → V.cell? ⟨g, i * 4, none⟩ = some (.int .i64 x.1) ∧ V.cell? ⟨g, i * 4 + 1, none⟩ = some (.string x.2.1) ∧ V.cell? ⟨g, i * 4 + 2, none⟩ = some (.int .u32 x.2.2.1) ∧ V.cell? ⟨g, i * 4 + 3, none⟩ = some (.int .i64 x.2.2.2) := by
  subst hn
  have h' := h
  obtain ⟨_, ⟨e, e0⟩ | ⟨g, cp, cur, e1, e2, e3, _⟩⟩ := h
  · refine ⟨none, 0, 0, by rw [e, e0], fun h => by omega, fun i y hy => ?_⟩
    have := (List.getElem?_eq_some_iff.1 hy).1
    omega
  · subst e1
    refine ⟨_, cp, g, rfl, fun _ => ⟨rfl, (Array.getElem?_eq_some_iff.1 e3).1⟩, fun i x hx => ?_⟩
    obtain ⟨q1, q2, q3, q4⟩ := tkrow_at l i x hx
    have h1 := h'.cells (g := g) rfl (i * 4) _ q1
    have h2 := h'.cells (g := g) rfl (i * 4 + 1) _ q2
    have h3 := h'.cells (g := g) rfl (i * 4 + 2) _ q3
    have h4 := h'.cells (g := g) rfl (i * 4 + 3) _ q4
    rw [Addr.add_lit] at h1 h2 h3 h4
    exact ⟨by simpa using h1, by simpa using h2, by simpa using h3, by simpa using h4⟩
theorem allV_len {S : ByteArray} : ∀ f p, (allV S f p).length ≤ f
  | 0, _ => Nat.le_refl 0
  | f + 1, p => by
    obtain ⟨K, t, n, a, E, hT⟩ : ∃ K t n a E, nextT S p = (K, t, n, a, E) := ⟨_, _, _, _, _, rfl⟩
    rw [allV_step hT, List.length_cons]
    split
    · exact Nat.succ_le_succ (Nat.zero_le _)
    · exact Nat.succ_le_succ (allV_len f E)
theorem drop_one {α : Type} {l : List α} {k : Nat} {x : α} {r : List α} (h : l.drop k = x :: r) : l[k]? = some x ∧ l.drop (k + 1) = r ∧ k < l.length := by
  have hk : k < l.length := by
    rcases Nat.lt_or_ge k l.length with h1 | h1
    · exact h1
    · rw [List.drop_eq_nil_of_le h1] at h
      cases h
  rw [List.drop_eq_getElem_cons hk] at h
  simp only [List.cons.injEq] at h
  exact ⟨by rw [List.getElem?_eq_getElem hk, h.1], h.2, hk⟩
theorem chain_split {S : ByteArray} {p : Nat} {l : List (Int × ByteArray × Int × Nat)} (h : Chain S p l) : ∃ K t m a r, l = (K, t, m, a) :: r ∧ p ≤ a ∧ a ≤ S.size ∧ ((K = 0 ∨ K = 5) ∧ r = [] ∧ t = ⟨#[]⟩ ∧ (K = 0 → a = S.size) ∨ K ≠ 0 ∧ K ≠ 5 ∧ 0 < t.size ∧ a + t.size ≤ S.size ∧ S.extract a (a + t.size) = t ∧ Chain S (a + t.size) r) := by
  cases l with
  | nil => exact h.elim
  | cons x r =>
    obtain ⟨K, t, m, a⟩ := x
    exact ⟨K, t, m, a, r, rfl, h⟩
theorem list_empty : (ByteArray.mk #[]).toList = [] := by rw [ByteArray.toList_eq]
theorem list_some {t : ByteArray} (h : 0 < t.size) : (t.toList == []) = false := by
  rw [beq_eq_false_iff_ne]
  intro e
  have := Lib.size_eq t
  rw [ByteArray.toList_eq] at e
  rw [e] at this
  have h0 : ([] : List UInt8).length = 0 := rfl
  omega
set_option maxRecDepth 100000 in
set_option maxHeartbeats 4000000 in
theorem lexRows_way (sa : Option Addr) (n cap : Nat) (zs : List Int) (w : World) (b off : Nat) (ha : 0 < n → sa = some ⟨b, off, none⟩ ∧ b < w.heap.size) (hc : ∀ i, i < n → w.cell? ⟨b, off + i, none⟩ = some (.int .u8 (zs.getD i 0))) (hz : ∀ i, 0 ≤ zs.getD i 0 ∧ zs.getD i 0 ≤ 255)
    (ev : Value) (hv : w.cell? ⟨1, 0, none⟩ = some ev) (hev : ev = .nilIface ∨ ∃ te pe, ev = .iface te pe) :
    Calls Tryd.prog 5 #[.slice sa n cap] w fun e w' => e = .returned (.bool true) ∧ Below w.heap.size w w' := by
  have hlt : 1 < w.heap.size := Lib.lt_of_cell hv
  have HV : Hid (∀ W, Below w.heap.size w W → W.cell? ⟨1, 0, none⟩ = some ev) := fun W hb => (hb.cell (p := ⟨1, 0, none⟩) hlt).trans hv
  have HE : Hid _ := hev
  have C : Hid _ := tText sa n cap zs w b off ha hc hz
  clear ha hc hz hv hev hlt
  go_enter Tryd.func5, Tryd.ntmps5
  go_wp2_with fail
  refine Calls.mono C.out ?_
  rintro e w1 ⟨S, rfl, hS, b1⟩
  have HS : Hid _ := hS
  have B1 : Hid _ := b1
  clear C hS b1
  go_wp2_with fail
  refine Calls.mono (lAll (by have := HS.out; omega) ev (HV.out _ B1.out) HE.out) ?_
  rintro e w2 ⟨v, N, rfl, hN, ho, b2⟩
  have CH : Hid (Chain S 0 ((allV S (S.size + 1) 0).drop 0)) := by rw [List.drop_zero]; exact allV_chain _ 0 (Nat.zero_le _) (by omega)
  have B2 : Hid (Below w.heap.size w w2) := B1.out.trans (b2.mono B1.out.size)
  obtain ⟨sb, cp, g, rfl, o1, o2⟩ := own_toks ho hN
  have hNS : N ≤ S.size + 1 := by rw [hN]; exact allV_len _ _
  generalize allV S (S.size + 1) 0 = L at *
  have HO : Hid _ := o2
  have HN : Hid _ := hN
  have hNp : 0 < N := by
    obtain ⟨K, t, m, a, r, e, _⟩ := chain_split CH.out
    rw [List.drop_zero] at e
    rw [hN, e]
    exact Nat.succ_pos _
  obtain ⟨rfl, hg⟩ := o1 hNp
  have N0 : (0 : Int) < (N : Int) := by omega
  have N1 : ((N : Int) == 0) = false := by rw [beq_eq_false_iff_ne]; omega
  have HG : Hid _ := hg
  have N2 : (N : Int) ≤ 961 := by have := HS.out; omega
  have s0 : (S.size : Int) ≤ 960 := by have := HS.out; omega
  clear ho b2 o1 o2 hN hNp hg B1 hNS
  go_wp2_with fail
  go_loopw [5, 6] (fun x y wr => ∃ (k e : Nat), x = .int .i64 e ∧ y = .int .i64 k ∧ Hid (Below w2.heap.size w2 wr) ∧ Hid (Chain S e (L.drop k))) (fun _ y _ => N - (intOf y).toNat)
  case atStart => exact ⟨0, 0, rfl, rfl, Below.refl _ _, CH⟩
  case round =>
    clear CH
    obtain ⟨k, e, rfl, rfl, hB, hch⟩ := hrel
    obtain ⟨K, t, m, a, r, hd, h1, h2, h3⟩ := chain_split hch.out
    obtain ⟨d1, d2, d3⟩ := drop_one hd
    have hkN : k < N := by have := HN.out; omega
    have hgl := HG.out
    obtain ⟨c0, c1, c2, c3⟩ := HO.out k _ d1
    have c0' := (hB.out.cell (p := ⟨g, k * 4, none⟩) hgl).trans c0
    have c1' := (hB.out.cell (p := ⟨g, k * 4 + 1, none⟩) hgl).trans c1
    have c2' := (hB.out.cell (p := ⟨g, k * 4 + 2, none⟩) hgl).trans c2
    have c3' := (hB.out.cell (p := ⟨g, k * 4 + 3, none⟩) hgl).trans c3
    dsimp only at c0' c1' c2' c3'
    obtain ⟨V, hV⟩ : ∃ V, V = wr.alloc (.cells (tokC K t m a) 33) := ⟨_, rfl⟩
    have BV : Hid (Below w2.heap.size w2 V) := by rw [hV]; exact hB.out.alloc hB.out.size _
    have hVk : V.heap[wr.heap.size]? = some (.cells (tokC K t m a) 33) := by rw [hV]; exact alloc_at _ _
    have BW : Hid (Below w.heap.size w V) := B2.out.trans (BV.out.mono B2.out.size)
    obtain ⟨y1, y2, y3, y4, -, -, -, -⟩ := tok_at hVk
    unfold tokC at hV
    have k0 : (0 : Int) ≤ (k : Int) := by omega
    have k1 : (k : Int) < (N : Int) := by omega
    have a0 : (0 : Int) ≤ (a : Int) := by omega
    have a1 : (a : Int) ≤ (S.size : Int) := by omega
    have a2 : ¬ (a : Int) < (e : Int) := by omega
    have a3 : ¬ (S.size : Int) < (a : Int) := by omega
    have HC : Hid _ := hch
    clear hch c0 c1 c2 c3 hVk hgl hd hB
    rcases h3 with ⟨hK, rfl, rfl, hA⟩ | ⟨K0, K5, ht, h4, h5, h6⟩
    · have ek : ((k : Int) == (N : Int) - 1) = true := by
        rw [beq_iff_eq]
        have e1 : (L.drop (k + 1)).length = 0 := by rw [d2]; rfl
        rw [List.length_drop] at e1
        have := HN.out
        omega
      clear d1 d2 d3 h1 h2 hkN
      rcases hK with rfl | rfl
      · have ea := hA rfl
        have ea' : ((a : Int) == (S.size : Int)) = true := by rw [beq_iff_eq]; omega
        clear hA ea
        go_wp2_with (rw [← hV])
        refine Calls.mono (tAwake ev (HV.out _ BW.out) HE.out) ?_
        rintro e w3 ⟨rfl, b3⟩
        have B3 : Hid (Below w.heap.size w w3) := BW.out.trans (b3.mono BW.out.size)
        clear b3
        go_wp2_with fail
        go_ret
        exact ⟨rfl, B3.out⟩
      · clear hA
        go_wp2_with (rw [← hV])
        refine Calls.mono (tAwake ev (HV.out _ BW.out) HE.out) ?_
        rintro e w3 ⟨rfl, b3⟩
        have B3 : Hid (Below w.heap.size w w3) := BW.out.trans (b3.mono BW.out.size)
        clear b3
        go_wp2_with fail
        go_ret
        exact ⟨rfl, B3.out⟩
    · have hk1 : k + 1 < N := by
        obtain ⟨K2, t2, m2, a2, r2, e2, _⟩ := chain_split h6
        have e1 : (L.drop (k + 1)).length = r.length := by rw [d2]
        rw [List.length_drop, e2, List.length_cons] at e1
        have := HN.out
        omega
      have ek : ((k : Int) == (N : Int) - 1) = false := by rw [beq_eq_false_iff_ne]; omega
      have eK0 : (K == 0) = false := by rw [beq_eq_false_iff_ne]; exact K0
      have eK5 : (K == 5) = false := by rw [beq_eq_false_iff_ne]; exact K5
      have t1 : (a : Int) + (t.size : Int) ≤ (S.size : Int) := by omega
      have t0 : (0 : Int) ≤ (t.size : Int) := by omega
      have t2 : ¬ (S.size : Int) < (a : Int) + (t.size : Int) := by omega
      have hn2 : ((a : Int) + (t.size : Int)).toNat = a + t.size := by omega
      have ht' : (t.toList == (ByteArray.mk #[]).toList) = false := by rw [list_empty]; exact list_some ht
      have ew : IntKind.i64.wrap ((a : Int) + (t.size : Int)) = (a : Int) + (t.size : Int) := by
        rw [IntKind.wrap_i64]
        omega
      have et : decide ((S.size : Int) < (a : Int) + (t.size : Int)) = false := decide_eq_false t2
      have ht2 : (t.toList == []) = false := list_some ht
      have HX : Hid (Chain S (a + t.size) (L.drop (k + 1))) := by rw [d2]; exact h6
      clear d1 d2 d3 h1 h2 hkN h6 K0 K5 ht hk1
      go_wp2_with (rw [← hV])
      clear hV
      go_quiet (fail)
      go_wp2_with fail
      exact ⟨⟨k + 1, a + t.size, by go_num, by go_num, below_drewN BV.out nq, HX⟩, by simp [intOf]; omega⟩
theorem came_u8 {a : Option Addr} {n cap : Nat} {zs : List Int} {w : World}
    (hz : (a = none ∧ n = 0 ∧ cap = 0 ∧ zs = []) ∨ ∃ p, a = some p ∧ n ≤ cap ∧ cap ≤ maxLen ∧ zs.length = cap ∧ (∀ i, i < zs.length → w.cell? (p.add i) = some (.int .u8 (zs.getD i 0))) ∧ ∀ z ∈ zs, (Lit.int .u8 z).wf = true) :
    ∃ b off, (0 < n → a = some ⟨b, off, none⟩ ∧ b < w.heap.size) ∧ (∀ i, i < n → w.cell? ⟨b, off + i, none⟩ = some (.int .u8 (zs.getD i 0))) ∧ ∀ i, 0 ≤ zs.getD i 0 ∧ zs.getD i 0 ≤ 255 := by
  rcases hz with ⟨rfl, rfl, rfl, rfl⟩ | ⟨p, rfl, hl, hmc, hzl, hcell, hwz⟩
  · exact ⟨0, 0, fun h => absurd h (by omega), fun i hi => absurd hi (by omega), fun i => by simp⟩
  · have hU : ∀ i, 0 ≤ zs.getD i 0 ∧ zs.getD i 0 ≤ 255 := fun i => by
      rw [List.getD_eq_getElem?_getD]
      cases hq : zs[i]? with
      | none => exact ⟨by decide, by decide⟩
      | some z => exact bounds_u8 (hwz z (List.mem_of_getElem? hq))
    by_cases hn : n = 0
    · subst hn
      exact ⟨0, 0, fun h => absurd h (by omega), fun i hi => absurd hi (by omega), hU⟩
    · obtain ⟨c, off', spot⟩ := p
      have hc := hcell 0 (by omega)
      have hspot : spot = none := by simpa [Addr.add] using World.cell?_spot hc
      subst hspot
      have hb : c < w.heap.size := by simpa [Addr.add] using World.block_lt_of_cell? _ _ hc
      exact ⟨c, off', fun _ => ⟨rfl, hb⟩, fun i hi => by have := hcell i (by omega); rwa [add_came] at this, hU⟩
/-- In the form in which the frame opens what came in. -/
theorem lexRows (sa : Option Addr) (n cap : Nat) (zs : List Int) (w : World)
    (hz : (sa = none ∧ n = 0 ∧ cap = 0 ∧ zs = []) ∨ ∃ p, sa = some p ∧ n ≤ cap ∧ cap ≤ maxLen ∧ zs.length = cap ∧ (∀ i, i < zs.length → w.cell? (p.add i) = some (.int .u8 (zs.getD i 0))) ∧ ∀ z ∈ zs, (Lit.int .u8 z).wf = true)
    (he : ∃ ev, w.cell? ⟨1, 0, none⟩ = some ev ∧ (ev = .nilIface ∨ ∃ te pe, ev = .iface te pe)) :
    Calls Tryd.prog 5 #[.slice sa n cap] w fun e w' => e = .returned (.bool true) ∧ Below w.heap.size w w' := by
  obtain ⟨b, off, h1, h2, h3⟩ := came_u8 hz
  obtain ⟨ev, hv, hev⟩ := he
  exact lexRows_way sa n cap zs w b off h1 h2 h3 ev hv hev
end Go.Proofs.YtjgpojjbjgdfkaaDoor
