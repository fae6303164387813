/-
  Image parts in blocks that are known: cells turned one by one.
-/
import Derived.Test.YtfjppgfnjjmkpaaImo
import Derived.Test.YtfjppgfnjjmkpaaCellw
import Derived.Test.YtfjppgfnjjmkpaaGdm
namespace Go.Proofs.Ytfjppgfnjjmkpaa
open Go.RowKit

def kcell (r : Rg) : List Value := [.int .u32 r.lo, .int .u32 r.hi, .bool r.x, .bool r.w]
def scell (s : ByteArray × Int) : List Value := [.string s.1, .int .u32 s.2]
/-- A part's keys and syms, by block. -/
structure KeyB (V : World) (p : Pt) (kb : Nat) : Prop where
  len : p.kl = p.ks.length
  at' : p.ks ≠ [] → p.ka = some ⟨kb, 0, none⟩
  blk : ∃ K, V.heap[kb]? = some (.cells K 25) ∧ ∀ q r, p.ks[q]? = some r → ∀ j v, (kcell r)[j]? = some v → K[q * 4 + j]? = some v
structure SymB (V : World) (p : Pt) (sb : Nat) : Prop where
  len : p.sl = p.ss.length
  at' : p.ss ≠ [] → p.sa = some ⟨sb, 0, none⟩
  blk : ∃ K, V.heap[sb]? = some (.cells K 49) ∧ ∀ q s, p.ss[q]? = some s → ∀ j v, (scell s)[j]? = some v → K[q * 2 + j]? = some v
/-- Parts in the block g. -/
structure ImB (V : World) (g : Nat) (ps : List Pt) (kb sb : Nat → Nat) : Prop where
  row : ∃ G, V.heap[g]? = some (.cells G 40) ∧ ∀ i p, ps[i]? = some p → ∀ j v, p.cells.toList[j]? = some v → G[i * 11 + j]? = some v
  key : ∀ i p, ps[i]? = some p → KeyB V p (kb i)
  sym : ∀ i p, ps[i]? = some p → SymB V p (sb i)
  ne : ∀ i j, i < ps.length → j < ps.length → kb i ≠ g ∧ sb i ≠ g ∧ kb i ≠ sb j ∧ (i ≠ j → kb i ≠ kb j ∧ sb i ≠ sb j)
theorem KeyB.keep {V V' : World} {p : Pt} {kb : Nat} (h : KeyB V p kb) (e : V'.heap[kb]? = V.heap[kb]?) : KeyB V' p kb := by
  obtain ⟨h1, h2, K, h3, h4⟩ := h
  exact ⟨h1, h2, K, by rw [e]; exact h3, h4⟩
theorem SymB.keep {V V' : World} {p : Pt} {sb : Nat} (h : SymB V p sb) (e : V'.heap[sb]? = V.heap[sb]?) : SymB V' p sb := by
  obtain ⟨h1, h2, K, h3, h4⟩ := h
  exact ⟨h1, h2, K, by rw [e]; exact h3, h4⟩
theorem ImB.kept {V V' : World} {g : Nat} {ps : List Pt} {kb sb : Nat → Nat} (h : ImB V g ps kb sb) (e : ∀ (q : Nat) (ob : Obj), V.heap[q]? = some ob → V'.heap[q]? = some ob) : ImB V' g ps kb sb := by
  obtain ⟨⟨G, hG, hr⟩, hk, hs, hn⟩ := h
  refine ⟨⟨G, e _ _ hG, hr⟩, fun i p hp => ?_, fun i p hp => ?_, hn⟩
  · obtain ⟨h1, h2, K, h3, h4⟩ := hk i p hp
    exact ⟨h1, h2, K, e _ _ h3, h4⟩
  · obtain ⟨h1, h2, K, h3, h4⟩ := hs i p hp
    exact ⟨h1, h2, K, e _ _ h3, h4⟩
theorem ImB.below {V V' : World} {g : Nat} {ps : List Pt} {kb sb : Nat → Nat} (h : ImB V g ps kb sb) (hb : Below V.heap.size V V') : ImB V' g ps kb sb := h.kept fun _ _ e => kept_on e hb
theorem ImB.parts {V : World} {g : Nat} {ps : List Pt} {kb sb : Nat → Nat} (h : ImB V g ps kb sb) : PartsAt V g 0 (some ⟨g, 0, none⟩) ps := by
  obtain ⟨⟨G, hG, hr⟩, hk, hs, hn⟩ := h
  refine ⟨fun _ => ⟨rfl, (Array.getElem?_eq_some_iff.1 hG).1⟩, fun i p hp j v hv => ?_, fun p hp => ?_⟩
  · rw [show 0 + i * 11 + j = i * 11 + j by omega]
    exact (cells_of hG).1 _ _ (hr i p hp j v hv)
  · obtain ⟨i, hi⟩ := List.mem_iff_getElem?.1 hp
    obtain ⟨h1, h2, K, h3, h4⟩ := hk i p hi
    obtain ⟨j1, j2, L, j3, j4⟩ := hs i p hi
    refine ⟨⟨kb i, 0, ⟨fun h => h2 (fun e => by rw [e] at h; exact absurd h (Nat.lt_irrefl _)), fun _ => (Array.getElem?_eq_some_iff.1 h3).1, fun q hq f v hv => ?_⟩⟩, ⟨sb i, 0, ⟨fun h => ⟨j2 (fun e => by rw [e] at h; exact absurd h (Nat.lt_irrefl _)), (Array.getElem?_eq_some_iff.1 j3).1⟩, fun q s hq f v hv => ?_⟩⟩, h1, j1⟩
    · rw [show 0 + q * 4 + f = q * 4 + f by omega]
      refine (cells_of h3).1 _ _ (h4 q (rgAt p.ks q) ?_ f v ?_)
      · unfold rgAt
        rw [List.getD_eq_getElem?_getD, List.getElem?_eq_getElem hq]
        rfl
      · exact hv
    · rw [show 0 + q * 2 + f = q * 2 + f by omega]
      exact (cells_of j3).1 _ _ (j4 q s hq f v hv)
theorem ImB.cell {V : World} {g : Nat} {ps : List Pt} {kb sb : Nat → Nat} (h : ImB V g ps kb sb) {q : Nat} {p : Pt} (hq : ps[q]? = some p) {c : Nat} {v : Value} (hv : p.cells.toList[c]? = some v) : V.cell? ⟨g, q * 11 + c, none⟩ = some v ∧ V.frozen? ⟨g, q * 11 + c, none⟩ = false := by
  obtain ⟨⟨G, hG, hr⟩, _⟩ := h
  exact ⟨(cells_of hG).1 _ _ (hr q p hq c v hv), (cells_of hG).2.1 _⟩
theorem ImB.atK {V : World} {g : Nat} {ps : List Pt} {kb sb : Nat → Nat} (h : ImB V g ps kb sb) {q m : Nat} {p : Pt} {r : Rg} (hq : ps[q]? = some p) (hm : p.ks[m]? = some r) {c : Nat} {v : Value} (hv : (kcell r)[c]? = some v) : V.cell? ⟨kb q, m * 4 + c, none⟩ = some v ∧ V.frozen? ⟨kb q, m * 4 + c, none⟩ = false := by
  obtain ⟨_, _, K, hK, hr⟩ := h.key q p hq
  exact ⟨(cells_of hK).1 _ _ (hr m r hm c v hv), (cells_of hK).2.1 _⟩
theorem ImB.atS {V : World} {g : Nat} {ps : List Pt} {kb sb : Nat → Nat} (h : ImB V g ps kb sb) {q m : Nat} {p : Pt} {s : ByteArray × Int} (hq : ps[q]? = some p) (hm : p.ss[m]? = some s) {c : Nat} {v : Value} (hv : (scell s)[c]? = some v) : V.cell? ⟨sb q, m * 2 + c, none⟩ = some v ∧ V.frozen? ⟨sb q, m * 2 + c, none⟩ = false := by
  obtain ⟨_, _, K, hK, hr⟩ := h.sym q p hq
  exact ⟨(cells_of hK).1 _ _ (hr m s hm c v hv), (cells_of hK).2.1 _⟩
theorem pt_len (p : Pt) : p.cells.toList.length = 11 := rfl
theorem set_at {α : Type} {l : List α} {q i : Nat} {x p : α} (h : (l.set q x)[i]? = some p) : (i = q ∧ p = x ∧ q < l.length) ∨ (i ≠ q ∧ l[i]? = some p) := by
  rw [List.getElem?_set] at h
  split at h
  · rename_i e
    split at h
    · rename_i hl
      cases h
      exact .inl ⟨e.symm, rfl, hl⟩
    · cases h
  · rename_i e
    exact .inr ⟨fun e' => e e'.symm, h⟩
/-- A cell of the parts' block turned. -/
theorem ImB.putP {V : World} {g : Nat} {ps : List Pt} {kb sb kb' : Nat → Nat} (h : ImB V g ps kb sb) {q c : Nat} {p p' : Pt} {x : Value} (hq : ps[q]? = some p) (hc : c < 11) (hp : p'.cells.toList = p.cells.toList.set c x)
    (hs : p'.ss = p.ss ∧ p'.sl = p.sl ∧ p'.sa = p.sa) (hk : KeyB V p' (kb' q)) (hkb : ∀ i, i ≠ q → kb' i = kb i) (hne : kb' q ≠ g ∧ ∀ j, j < ps.length → kb' q ≠ sb j ∧ (j ≠ q → kb' q ≠ kb j)) : ImB (V.setCell ⟨g, q * 11 + c, none⟩ x) g (ps.set q p') kb' sb := by
  obtain ⟨⟨G, hG, hr⟩, h2, h3, hn⟩ := h
  have ql : q < ps.length := (List.getElem?_eq_some_iff.1 hq).1
  have oth : ∀ b, b ≠ g → (V.setCell ⟨g, q * 11 + c, none⟩ x).heap[b]? = V.heap[b]? := fun b hb => Below.heap_setCell _ _ _ _ hb
  refine ⟨⟨_, heap_setCell_at x hG, fun i r hi j v hv => ?_⟩, fun i r hi => ?_, fun i r hi => ?_, fun i j hi hj => ?_⟩
  · have hj : j < 11 := (List.getElem?_eq_some_iff.1 hv).1
    rw [Array.getElem?_setIfInBounds]
    rcases set_at hi with ⟨rfl, rfl, _⟩ | ⟨hne', hi'⟩
    · rw [hp, List.getElem?_set] at hv
      by_cases e : c = j
      · subst e
        rw [if_pos rfl, if_pos (by rw [pt_len]; exact hc)] at hv
        rw [if_pos rfl, if_pos ((Array.getElem?_eq_some_iff.1 (hr i p hq c _ (List.getElem?_eq_getElem (by rw [pt_len]; exact hc)))).1)]
        exact hv
      · rw [if_neg e] at hv
        rw [if_neg (by omega)]
        exact hr i p hq j v hv
    · rw [if_neg (by omega)]
      exact hr i r hi' j v hv
  · rcases set_at hi with ⟨rfl, rfl, _⟩ | ⟨hne', hi'⟩
    · exact hk.keep (oth _ hne.1)
    · rw [hkb i hne']
      exact (h2 i r hi').keep (oth _ (hn i i (List.getElem?_eq_some_iff.1 hi').1 (List.getElem?_eq_some_iff.1 hi').1).1)
  · rcases set_at hi with ⟨rfl, rfl, _⟩ | ⟨hne', hi'⟩
    · have h0 := (h3 i p hq).keep (oth _ (hn i i ql ql).2.1)
      obtain ⟨a1, a2, L, a3, a4⟩ := h0
      exact ⟨by rw [hs.2.1, hs.1]; exact a1, by rw [hs.1, hs.2.2]; exact a2, L, a3, by rw [hs.1]; exact a4⟩
    · exact (h3 i r hi').keep (oth _ (hn i i (List.getElem?_eq_some_iff.1 hi').1 (List.getElem?_eq_some_iff.1 hi').1).2.1)
  · rw [List.length_set] at hi hj
    obtain ⟨n1, n2, n3, n4⟩ := hn i j hi hj
    by_cases e : i = q
    · subst e
      refine ⟨hne.1, n2, (hne.2 j hj).1, fun e' => ⟨?_, (n4 e').2⟩⟩
      rw [hkb j (fun e2 => e' e2.symm)]
      exact (hne.2 j hj).2 (fun e2 => e' e2.symm)
    · rw [hkb i e]
      refine ⟨n1, n2, n3, fun e' => ⟨?_, (n4 e').2⟩⟩
      by_cases e3 : j = q
      · subst e3
        exact fun e4 => (hne.2 i hi).2 e e4.symm
      · rw [hkb j e3]
        exact (n4 e').1
/-- A cell of a part's keys turned. -/
theorem ImB.putK {V : World} {g : Nat} {ps : List Pt} {kb sb : Nat → Nat} (h : ImB V g ps kb sb) {q m c : Nat} {p : Pt} {r r' : Rg} {x : Value} (hq : ps[q]? = some p) (hm : p.ks[m]? = some r) (hc : c < 4) (hr' : kcell r' = (kcell r).set c x) :
    ImB (V.setCell ⟨kb q, m * 4 + c, none⟩ x) g (ps.set q { p with ks := p.ks.set m r' }) kb sb := by
  obtain ⟨⟨G, hG, hr⟩, h2, h3, hn⟩ := h
  have ql : q < ps.length := (List.getElem?_eq_some_iff.1 hq).1
  have oth : ∀ b, b ≠ kb q → (V.setCell ⟨kb q, m * 4 + c, none⟩ x).heap[b]? = V.heap[b]? := fun b hb => Below.heap_setCell _ _ _ _ hb
  refine ⟨⟨G, by rw [oth g (fun e => (hn q q ql ql).1 e.symm)]; exact hG, fun i s hi j v hv => ?_⟩, fun i s hi => ?_, fun i s hi => ?_, fun i j hi hj => ?_⟩
  · rcases set_at hi with ⟨rfl, rfl, _⟩ | ⟨_, hi'⟩
    · exact hr i p hq j v hv
    · exact hr i s hi' j v hv
  · rcases set_at hi with ⟨rfl, rfl, _⟩ | ⟨hne', hi'⟩
    · obtain ⟨a1, a2, K, a3, a4⟩ := h2 i p hq
      refine ⟨by show p.kl = (p.ks.set m r').length; rw [List.length_set]; exact a1, fun _ => a2 (fun e => by rw [e] at hm; cases hm), _, heap_setCell_at x a3, fun t s hs j v hv => ?_⟩
      have hj : j < 4 := (List.getElem?_eq_some_iff.1 hv).1
      rw [Array.getElem?_setIfInBounds]
      rcases set_at hs with ⟨rfl, rfl, _⟩ | ⟨hne', hs'⟩
      · rw [hr', List.getElem?_set] at hv
        by_cases e : c = j
        · subst e
          rw [if_pos rfl, if_pos (show c < (kcell r).length from hc)] at hv
          rw [if_pos rfl, if_pos ((Array.getElem?_eq_some_iff.1 (a4 t r hm c _ (List.getElem?_eq_getElem (show c < (kcell r).length from hc)))).1)]
          exact hv
        · rw [if_neg e] at hv
          rw [if_neg (by omega)]
          exact a4 t r hm j v hv
      · rw [if_neg (by omega)]
        exact a4 t s hs' j v hv
    · exact (h2 i s hi').keep (oth _ ((hn i q (List.getElem?_eq_some_iff.1 hi').1 ql).2.2.2 hne').1)
  · rcases set_at hi with ⟨rfl, rfl, _⟩ | ⟨hne', hi'⟩
    · obtain ⟨a1, a2, L, a3, a4⟩ := (h3 i p hq).keep (oth _ (fun e => (hn i i ql ql).2.2.1 e.symm))
      exact ⟨a1, a2, L, a3, a4⟩
    · exact (h3 i s hi').keep (oth _ (fun e => (hn q i ql (List.getElem?_eq_some_iff.1 hi').1).2.2.1 e.symm))
  · rw [List.length_set] at hi hj
    exact hn i j hi hj
/-- A cell of a part's syms turned. -/
theorem ImB.putS {V : World} {g : Nat} {ps : List Pt} {kb sb : Nat → Nat} (h : ImB V g ps kb sb) {q m c : Nat} {p : Pt} {r r' : ByteArray × Int} {x : Value} (hq : ps[q]? = some p) (hm : p.ss[m]? = some r) (hc : c < 2) (hr' : scell r' = (scell r).set c x) :
    ImB (V.setCell ⟨sb q, m * 2 + c, none⟩ x) g (ps.set q { p with ss := p.ss.set m r' }) kb sb := by
  obtain ⟨⟨G, hG, hr⟩, h2, h3, hn⟩ := h
  have ql : q < ps.length := (List.getElem?_eq_some_iff.1 hq).1
  have oth : ∀ b, b ≠ sb q → (V.setCell ⟨sb q, m * 2 + c, none⟩ x).heap[b]? = V.heap[b]? := fun b hb => Below.heap_setCell _ _ _ _ hb
  refine ⟨⟨G, by rw [oth g (fun e => (hn q q ql ql).2.1 e.symm)]; exact hG, fun i s hi j v hv => ?_⟩, fun i s hi => ?_, fun i s hi => ?_, fun i j hi hj => ?_⟩
  · rcases set_at hi with ⟨rfl, rfl, _⟩ | ⟨_, hi'⟩
    · exact hr i p hq j v hv
    · exact hr i s hi' j v hv
  · rcases set_at hi with ⟨rfl, rfl, _⟩ | ⟨hne', hi'⟩
    · obtain ⟨a1, a2, K, a3, a4⟩ := (h2 i p hq).keep (oth _ (hn i i ql ql).2.2.1)
      exact ⟨a1, a2, K, a3, a4⟩
    · exact (h2 i s hi').keep (oth _ (hn i q (List.getElem?_eq_some_iff.1 hi').1 ql).2.2.1)
  · rcases set_at hi with ⟨rfl, rfl, _⟩ | ⟨hne', hi'⟩
    · obtain ⟨a1, a2, K, a3, a4⟩ := h3 i p hq
      refine ⟨by show p.sl = (p.ss.set m r').length; rw [List.length_set]; exact a1, fun _ => a2 (fun e => by rw [e] at hm; cases hm), _, heap_setCell_at x a3, fun t s hs j v hv => ?_⟩
      have hj : j < 2 := (List.getElem?_eq_some_iff.1 hv).1
      rw [Array.getElem?_setIfInBounds]
      rcases set_at hs with ⟨rfl, rfl, _⟩ | ⟨hne', hs'⟩
      · rw [hr', List.getElem?_set] at hv
        by_cases e : c = j
        · subst e
          rw [if_pos rfl, if_pos (show c < (scell r).length from hc)] at hv
          rw [if_pos rfl, if_pos ((Array.getElem?_eq_some_iff.1 (a4 t r hm c _ (List.getElem?_eq_getElem (show c < (scell r).length from hc)))).1)]
          exact hv
        · rw [if_neg e] at hv
          rw [if_neg (by omega)]
          exact a4 t r hm j v hv
      · rw [if_neg (by omega)]
        exact a4 t s hs' j v hv
    · exact (h3 i s hi').keep (oth _ ((hn i q (List.getElem?_eq_some_iff.1 hi').1 ql).2.2.2 hne').2)
  · rw [List.length_set] at hi hj
    exact hn i j hi hj
/-- What Sound made, by blocks. -/
theorem SndFin.imb {w V : World} {v : Value} {ps : List Pt} {n : Nat} (h : SndFin w V v ps n) (h0 : 0 < n) : ∃ g pc kb sb, v = .slice (some ⟨g, 0, none⟩) n pc ∧ ImB V g ps kb sb ∧ (∀ j p, ps[j]? = some p → p = sndP j (kb j) (sb j) ∧ w.heap.size + 4 ≤ kb j ∧ w.heap.size + 4 ≤ sb j) ∧ w.heap.size + 4 ≤ g := by
  have hch : ∀ j, ∃ kb sb, ∀ p, ps[j]? = some p → p = sndP j kb sb ∧ V.heap[kb]? = some (.cells (sndKs j) 25) ∧ V.heap[sb]? = some (.cells (sndSs j) 49) ∧ v.ownBlock ≠ some kb ∧ v.ownBlock ≠ some sb ∧ w.heap.size + 4 ≤ kb ∧ w.heap.size + 4 ≤ sb := fun j => by
    cases hj : ps[j]? with
    | none => exact ⟨0, 0, fun p hp => by cases hp⟩
    | some p0 =>
      obtain ⟨kb, sb, e⟩ := h.pts j p0 hj
      exact ⟨kb, sb, fun p hp => by cases hp; exact e⟩
  obtain ⟨kb, hkb⟩ : ∃ kb : Nat → Nat, kb = fun j => Classical.choose (hch j) := ⟨_, rfl⟩
  obtain ⟨sb, hs0⟩ : ∃ sb : Nat → Nat, sb = fun j => Classical.choose (Classical.choose_spec (hch j)) := ⟨_, rfl⟩
  have hsb : ∀ j, ∀ p, ps[j]? = some p → p = sndP j (kb j) (sb j) ∧ V.heap[kb j]? = some (.cells (sndKs j) 25) ∧ V.heap[sb j]? = some (.cells (sndSs j) 49) ∧ v.ownBlock ≠ some (kb j) ∧ v.ownBlock ≠ some (sb j) ∧ w.heap.size + 4 ≤ kb j ∧ w.heap.size + 4 ≤ sb j := fun j => by
    rw [hkb, hs0]
    exact Classical.choose_spec (Classical.choose_spec (hch j))
  have hh := h.own
  obtain ⟨_, ⟨_, hn⟩ | ⟨g, cp, cur, e, hgB, hg, _⟩⟩ := h.own
  · omega
  · subst e
    have there : ∀ i, i < ps.length → ∃ p, ps[i]? = some p := fun i hi => ⟨_, List.getElem?_eq_getElem hi⟩
    refine ⟨g, cp, kb, sb, rfl, ⟨⟨cur, hg, fun i p hp j u hu => ?_⟩, fun i p hp => ?_, fun i p hp => ?_, fun i j hi hj => ?_⟩, fun j p hp => ?_, hgB⟩
    · have := hh.cells (g := g) rfl (i * 11 + j) u (prow_at ps i p j u hp hu)
      rw [Addr.add_lit] at this
      simp only [World.cell?, hg] at this
      simpa using this
    · obtain ⟨rfl, e2, e3, _⟩ := hsb i p hp
      refine ⟨rfl, fun _ => rfl, _, e2, fun q r hr f u hu => ?_⟩
      have hq0 : q = 0 := by
        have : q < 1 := (List.getElem?_eq_some_iff.1 hr).1
        omega
      subst hq0
      cases hr
      rw [show 0 * 4 + f = f by omega, ← Array.getElem?_toList]
      exact hu
    · obtain ⟨rfl, e2, e3, _⟩ := hsb i p hp
      refine ⟨rfl, fun _ => rfl, _, e3, fun q s hs f u hu => ?_⟩
      have hq2 : q < 2 := (List.getElem?_eq_some_iff.1 hs).1
      have hf : f < 2 := (List.getElem?_eq_some_iff.1 hu).1
      have : q = 0 ∨ q = 1 := by omega
      rcases this with rfl | rfl
      · cases hs
        have : f = 0 ∨ f = 1 := by omega
        rcases this with rfl | rfl <;> exact hu
      · cases hs
        have : f = 0 ∨ f = 1 := by omega
        rcases this with rfl | rfl <;> exact hu
    · obtain ⟨p, hp⟩ := there i hi
      obtain ⟨p', hp'⟩ := there j hj
      obtain ⟨-, e2, e3, n1, n2, -⟩ := hsb i p hp
      obtain ⟨-, f2, f3, -⟩ := hsb j p' hp'
      refine ⟨fun e => n1 (by rw [e]; rfl), fun e => n2 (by rw [e]; rfl), fun e => ?_, fun hij => ⟨fun e => ?_, fun e => ?_⟩⟩
      · rw [e, f3] at e2
        cases e2
      · rw [e, f2] at e2
        have := Option.some.inj e2
        simp only [sndKs, Obj.cells.injEq, Array.mk.injEq, List.cons.injEq, Value.int.injEq] at this
        omega
      · rw [e, f3] at e3
        have := Option.some.inj e3
        simp only [sndSs, Obj.cells.injEq, Array.mk.injEq, List.cons.injEq, Value.int.injEq] at this
        omega
    · obtain ⟨e1, -, -, -, -, e6, e7⟩ := hsb j p hp
      exact ⟨e1, e6, e7⟩
end Go.Proofs.Ytfjppgfnjjmkpaa
