/-
  footmanlaw9.Sound.
-/
import Derived.Test.YtfjppgfnjjmkpaaImm
import Derived.Test.YtfjppgfnjjmkpaaPhase
namespace Go.Proofs.Ytfjppgfnjjmkpaa
open Go.RowKit

section
variable {P : Program} {ops : Array Oper} {Q : Exit → Act → World → Prop} {md : Region.Mode} {k0 : Nat} {S : Bool → World → Prop}
/-- Two operations that alone may come up now, in either order. -/
theorem ppair (i j : Nat) (di dj : Option Tmp) {oi oj : Oper} {vi vj ui uj : Value} {fuel : Nat} {listed : Array Bool} {a : Act} {w wi wij wj wji : World} (hi : ops[i]? = some oi) (hj : ops[j]? = some oj) (hdi : oi.dst = di) (hdj : oj.dst = dj)
    (hgi : ∀ t, Region.wanted oi (yielded ops t) = true) (hgj : ∀ t, Region.wanted oj (yielded ops t) = true) (hr : Region.ready md ops listed = [i, j]) (hri : Region.ready md ops (listed.setIfInBounds i true) = [j]) (hrj : Region.ready md ops (listed.setIfInBounds j true) = [i])
    (x1 : (execOp a.eval oi).run P w = .ok (.value vi) wi) (x2 : (execOp (a.put di vi).eval oj).run P wi = .ok (.value vj) wij) (y1 : (execOp a.eval oj).run P w = .ok (.value uj) wj) (y2 : (execOp (a.put dj uj).eval oi).run P wj = .ok (.value ui) wji)
    (hS1 : S ((listed.setIfInBounds i true).getD k0 true) wi) (hS2 : S ((listed.setIfInBounds j true).getD k0 true) wj)
    (hS3 : S (((listed.setIfInBounds i true).setIfInBounds j true).getD k0 true) wij) (hS4 : S (((listed.setIfInBounds j true).setIfInBounds i true).getD k0 true) wji)
    (h1 : wpAnyS P md ops Q k0 S fuel ((listed.setIfInBounds i true).setIfInBounds j true) ((a.put di vi).put dj vj) wij) (h2 : wpAnyS P md ops Q k0 S fuel ((listed.setIfInBounds j true).setIfInBounds i true) ((a.put dj uj).put di ui) wji) :
    wpAnyS P md ops Q k0 S (fuel + 2) listed a w := by
  subst hdi hdj
  refine ⟨fun h => (by rw [hr] at h; cases h), fun k hk => ?_⟩
  rw [hr] at hk
  rcases List.mem_cons.1 hk with rfl | hk
  · unfold wpOp
    simp only [hi]
    rw [if_pos (hgi _)]
    refine Or.inl ?_
    unfold Oper.wp
    rw [x1]
    exact ⟨hS1, pturn j _ hj rfl (hgj _) hri x2 hS3 h1⟩
  · have : k = j := by simpa using hk
    subst this
    unfold wpOp
    simp only [hj]
    rw [if_pos (hgj _)]
    refine Or.inl ?_
    unfold Oper.wp
    rw [y1]
    exact ⟨hS2, pturn i _ hi rfl (hgi _) hrj y2 hS4 h2⟩
end
def sndN : Nat → ByteArray
  | 0 => ⟨#[97]⟩
  | 1 => ⟨#[98]⟩
  | 2 => ⟨#[99]⟩
  | 3 => ⟨#[100]⟩
  | 4 => ⟨#[101]⟩
  | 5 => ⟨#[102]⟩
  | 6 => ⟨#[103]⟩
  | 7 => ⟨#[104]⟩
  | _ => ⟨#[105]⟩
def sndNs : Array Value := #[.string ⟨#[97]⟩, .string ⟨#[98]⟩, .string ⟨#[99]⟩, .string ⟨#[100]⟩, .string ⟨#[101]⟩, .string ⟨#[102]⟩, .string ⟨#[103]⟩, .string ⟨#[104]⟩, .string ⟨#[105]⟩]
theorem sndNs_at (k : Nat) (h : k < 9) : sndNs[k]? = some (.string (sndN k)) := by
  match k, h with
  | 0, _ => rfl
  | 1, _ => rfl
  | 2, _ => rfl
  | 3, _ => rfl
  | 4, _ => rfl
  | 5, _ => rfl
  | 6, _ => rfl
  | 7, _ => rfl
  | 8, _ => rfl
/-- A part of Sound, its keys at kb, its syms at sb. -/
def sndP (k kb sb : Nat) : Pt :=
  ⟨sndN k, ⟨200 + 60 * k, 220 + 60 * k, true, false⟩, ⟨220 + 60 * k, 260 + 60 * k, false, true⟩, some ⟨kb, 0, none⟩, 1, 1, some ⟨sb, 0, none⟩, 2, 2, [⟨40 + 16 * k, 56 + 16 * k, false, false⟩], [(⟨#[120]⟩, 220 + 60 * k), (⟨#[121]⟩, 256 + 60 * k)]⟩
def sndKs (k : Nat) : Array Value := #[.int .u32 (40 + 16 * (k : Int)), .int .u32 (56 + 16 * (k : Int)), .bool false, .bool false]
def sndSs (k : Nat) : Array Value := #[.string ⟨#[120]⟩, .int .u32 (220 + 60 * (k : Int)), .string ⟨#[121]⟩, .int .u32 (256 + 60 * (k : Int))]
def prow : List Pt → List Value
  | [] => []
  | p :: ps => p.cells.toList ++ prow ps
theorem prow_more (ps : List Pt) (p : Pt) : prow (ps ++ [p]) = prow ps ++ p.cells.toList := by
  induction ps with
  | nil => simp [prow]
  | cons a l ih => simp [prow, ih]
theorem infoPr : (Try.prog.info? 40).map (fun i => (i.size, i.zero.map (·.cells.size))) = some (11, some 11) := by kernel_rfl
def noughts200 : Array Value := (List.replicate 200 (Value.int .u32 0)).toArray
set_option maxRecDepth 100000 in
theorem made200 (w : World) : (Instr.makeSlice 22 (.int .i64 200) (.int .i64 200)).run Try.prog w = .ok (.slice (some ⟨w.heap.size, 0, none⟩) 200 200) (w.alloc (.cells noughts200 23)) := by kernel_rfl
theorem infoPt3 : (Try.prog.info? 40).map (fun i => (i.zero, i.size, i.bytes)) = some (some (.agg #[.string ⟨#[]⟩, .int .u32 0, .int .u32 0, .bool false, .bool false, .int .u32 0, .int .u32 0, .bool false, .bool false, .slice none 0 0, .slice none 0 0]), 11, 88) := by kernel_rfl
theorem own_sl {w : World} {B : Nat} {t : TypeId} {sz n : Nat} {v : Value} {l : List Value} (h : w.ownsRow B t sz v n l) : ∃ sa cp, v = .slice sa n cp := by
  obtain ⟨_, ⟨e, hn⟩ | ⟨g, cp, cur, e, _⟩⟩ := h
  · exact ⟨none, 0, by rw [e, hn]⟩
  · exact ⟨_, _, e⟩
def sndI (s : Nat) (v : Value) : Array Value := #[.slice (some ⟨s + 1, 0, none⟩) 200 200, .int .u32 0, .int .u32 40, .bool false, .bool false, .int .u32 40, .int .u32 200, .bool false, .bool false, v]
def zeroI : Array Value := #[.slice none 0 0, .int .u32 0, .int .u32 0, .bool false, .bool false, .int .u32 0, .int .u32 0, .bool false, .bool false, .slice none 0 0]
/-- The parts that Sound has made so far. -/
structure SndSt (w V : World) (v : Value) (ps : List Pt) (k : Nat) : Prop where
  low : Below w.heap.size w V
  size : w.heap.size + 4 ≤ V.heap.size
  res : V.heap[w.heap.size]? = some (.cells zeroI 28)
  box : V.heap[w.heap.size + 2]? = some (.cells (sndI w.heap.size v) 28)
  nms : V.heap[w.heap.size + 3]? = some (.cells sndNs 9)
  own : V.ownsRow (w.heap.size + 4) 40 11 v k (prow ps)
  len : ps.length = k
  pts : ∀ j p, ps[j]? = some p → ∃ kb sb, p = sndP j kb sb ∧ V.heap[kb]? = some (.cells (sndKs j) 25) ∧ V.heap[sb]? = some (.cells (sndSs j) 49) ∧ v.ownBlock ≠ some kb ∧ v.ownBlock ≠ some sb ∧ w.heap.size + 4 ≤ kb ∧ w.heap.size + 4 ≤ sb
/-- What Sound hands back. -/
structure SndFin (w w' : World) (v : Value) (ps : List Pt) (k : Nat) : Prop where
  low : Below w.heap.size w w'
  size : w.heap.size + 4 ≤ w'.heap.size
  own : w'.ownsRow (w.heap.size + 4) 40 11 v k (prow ps)
  len : ps.length = k
  pts : ∀ j p, ps[j]? = some p → ∃ kb sb, p = sndP j kb sb ∧ w'.heap[kb]? = some (.cells (sndKs j) 25) ∧ w'.heap[sb]? = some (.cells (sndSs j) 49) ∧ v.ownBlock ≠ some kb ∧ v.ownBlock ≠ some sb ∧ w.heap.size + 4 ≤ kb ∧ w.heap.size + 4 ≤ sb
theorem SndSt.fin {w V : World} {v : Value} {ps : List Pt} {k : Nat} (h : SndSt w V v ps k) (cs : Array Value) : SndFin w (V.setRow w.heap.size cs) v ps k := by
  have far : ∀ (q : Nat) (ob : Obj), w.heap.size + 4 ≤ q → V.heap[q]? = some ob → (V.setRow w.heap.size cs).heap[q]? = some ob := fun q ob hq e => by
    rw [setRow_other _ _ _ _ (show q ≠ w.heap.size by omega)]
    exact e
  refine ⟨row_below h.low (Nat.le_refl _) cs, by have := h.size; simpa using this, ?_, h.len, fun j p hp => ?_⟩
  · obtain ⟨h1, h2 | ⟨g, cap, cur, e1, e2, e3, e4, e5, e6, e7⟩⟩ := h.own
    · exact ⟨h1, .inl h2⟩
    · exact ⟨h1, .inr ⟨g, cap, cur, e1, e2, far _ _ e2 e3, e4, e5, e6, e7⟩⟩
  · obtain ⟨kb, sb, e1, e2, e3, e4, e5, e6, e7⟩ := h.pts j p hp
    exact ⟨kb, sb, e1, far _ _ e6 e2, far _ _ e7 e3, e4, e5, e6, e7⟩
theorem snd_one (s : Nat) (sa : Option Addr) (n cp : Nat) : (sndI s (.slice sa n cp)).all (·.oneCell') = true := by simp [sndI, Value.oneCell']
theorem run_app2 {P : Program} {o : Oper} {a : Act} {w w' : World} {s x : Operand} {t1 t2 : TypeId} {vs vx v' : Value} (ho : o.op = .call { callee := .builtin .append, args := #[s, x], argTypes := #[t1, t2] }) (hs : a.eval s = vs) (hx : a.eval x = vx) (hr : (Builtin.append_ #[t1, t2] o.type #[vs, vx]).run P w = .ok v' w') : (execOp a.eval o).run P w = .ok (.value v') w' := by
  unfold execOp
  simp only [ho, resolve, invoke, builtin, Sem.run_bind, Sem.run_pure, Result.andThen_ok, List.map_toArray, List.map_cons, List.map_nil, hs, hx, hr]
theorem owns_set2 {w : World} {B b i : Nat} {x : Value} {t : TypeId} {sz n : Nat} {v : Value} {l : List Value} (h : w.ownsRow B t sz v n l) (hb : b < B) : (w.setCell ⟨b, i, none⟩ x).ownsRow B t sz v n l := by
  obtain ⟨h1, h2 | ⟨g, cap, cur, e1, e2, e3, e4, e5, e6, e7⟩⟩ := h
  · exact ⟨h1, .inl h2⟩
  · exact ⟨h1, .inr ⟨g, cap, cur, e1, e2, (Below.heap_setCell _ _ _ _ (show g ≠ b by omega)).trans e3, e4, e5, e6, e7⟩⟩
theorem owns_lt2 {w : World} {B : Nat} {t : TypeId} {sz n : Nat} {v : Value} {l : List Value} (h : w.ownsRow B t sz v n l) (k : Nat) (hk : v.ownBlock = some k) : B ≤ k ∧ k < w.heap.size := by
  obtain ⟨_, ⟨e, _⟩ | ⟨g, cap, cur, e1, e2, e3, _⟩⟩ := h
  · rw [e] at hk; cases hk
  · rw [e1] at hk
    cases hk
    exact ⟨e2, (Array.getElem?_eq_some_iff.1 e3).1⟩
theorem snd_next {w V W3 W4 : World} {v v' : Value} {ps : List Pt} {k kb sb : Nat} (h : SndSt w V v ps k) (hV : Below V.heap.size V W3) (E1 : W3.heap[kb]? = some (.cells (sndKs k) 25)) (E2 : W3.heap[sb]? = some (.cells (sndSs k) 49)) (hkb : V.heap.size ≤ kb) (hsb : V.heap.size ≤ sb)
    (hg : W3.grownBy W4 v.ownBlock) (ho : W4.ownsRow (w.heap.size + 4) 40 11 v' (k + 1) (prow ps ++ (sndP k kb sb).cells.toList)) (hv : v'.ownBlock = v.ownBlock ∨ v'.ownBlock = some W3.heap.size) :
    SndSt w (W4.setCell ⟨w.heap.size + 2, 9, none⟩ v') v' (ps ++ [sndP k kb sb]) (k + 1) := by
  have hsz := h.size
  have l3 := hV.size
  have own_ne : ∀ q, v.ownBlock = some q → w.heap.size + 4 ≤ q ∧ q < V.heap.size := fun q e => owns_lt2 h.own q e
  have keep : ∀ (q : Nat) (ob : Obj), W3.heap[q]? = some ob → v.ownBlock ≠ some q → W4.heap[q]? = some ob := fun q ob e ne => by
    rw [hg.block q (Array.getElem?_eq_some_iff.1 e).1 (fun e' => ne e'.symm)]
    exact e
  have old : ∀ (q : Nat) (ob : Obj), q < w.heap.size + 4 → V.heap[q]? = some ob → W4.heap[q]? = some ob := fun q ob hq e => keep q ob (kept_on e hV) (fun e' => by have := (own_ne q e').1; omega)
  have fresh : ∀ q, v'.ownBlock = some q → v.ownBlock = some q ∨ q = W3.heap.size := fun q hq => by
    rcases hv with e | e
    · exact .inl (e ▸ hq)
    · rw [e] at hq; cases hq; exact .inr rfl
  have far : ∀ (q : Nat) (ob : Obj), w.heap.size + 4 ≤ q → W4.heap[q]? = some ob → (W4.setCell ⟨w.heap.size + 2, 9, none⟩ v').heap[q]? = some ob := fun q ob hq e => (Below.heap_setCell _ _ _ _ (show q ≠ w.heap.size + 2 by omega)).trans e
  refine ⟨?_, ?_, ?_, ?_, ?_, ?_, ?_, fun j p hp => ?_⟩
  · have b3 : Below w.heap.size w W3 := below_step h.low hV
    have b4 : Below w.heap.size w W4 := by
      cases hov : v.ownBlock with
      | none => exact below_grown (b := w.heap.size) b3 ⟨hg.os, hg.tape, hg.output, hg.size, fun q hq _ => hg.block q hq (by rw [hov]; simp)⟩ b3.size (Nat.le_refl _)
      | some q =>
        rw [hov] at hg
        exact below_grown b3 hg b3.size (by have := (own_ne q hov).1; omega)
    exact b4.setCell (p := ⟨w.heap.size + 2, 9, none⟩) (by show w.heap.size ≤ w.heap.size + 2; omega) _
  · have : (W4.setCell ⟨w.heap.size + 2, 9, none⟩ v').heap.size = W4.heap.size := by simp [World.setCell]
    have := hg.size
    omega
  · exact (Below.heap_setCell _ _ _ _ (show w.heap.size ≠ w.heap.size + 2 by omega)).trans (old _ _ (by omega) h.res)
  · exact heap_setCell_at v' (old _ _ (by omega) h.box)
  · exact (Below.heap_setCell _ _ _ _ (show w.heap.size + 3 ≠ w.heap.size + 2 by omega)).trans (old _ _ (by omega) h.nms)
  · rw [prow_more]
    exact owns_set2 ho (by omega)
  · rw [List.length_append, h.len]
    rfl
  · rcases Nat.lt_or_ge j ps.length with hj | hj
    · rw [List.getElem?_append_left hj] at hp
      obtain ⟨kb', sb', e1, e2, e3, e4, e5, e6, e7⟩ := h.pts j p hp
      have hk1 := (Array.getElem?_eq_some_iff.1 e2).1
      have hs1 := (Array.getElem?_eq_some_iff.1 e3).1
      refine ⟨kb', sb', e1, far _ _ e6 (keep _ _ (kept_on e2 hV) e4), far _ _ e7 (keep _ _ (kept_on e3 hV) e5), fun e => ?_, fun e => ?_, e6, e7⟩
      · rcases fresh _ e with e' | e'
        · exact e4 e'
        · omega
      · rcases fresh _ e with e' | e'
        · exact e5 e'
        · omega
    · have hjk : j = k := by
        have := (List.getElem?_eq_some_iff.1 hp).1
        rw [List.length_append] at this
        have h1 : [sndP k kb sb].length = 1 := rfl
        have := h.len
        omega
      subst hjk
      rw [List.getElem?_append_right hj, h.len, Nat.sub_self] at hp
      cases hp
      have hk1 := (Array.getElem?_eq_some_iff.1 E1).1
      have hs1 := (Array.getElem?_eq_some_iff.1 E2).1
      have nk : v.ownBlock ≠ some kb := fun e => by have := (own_ne _ e).2; omega
      have ns : v.ownBlock ≠ some sb := fun e => by have := (own_ne _ e).2; omega
      refine ⟨kb, sb, rfl, far _ _ (by omega) (keep _ _ E1 nk), far _ _ (by omega) (keep _ _ E2 ns), fun e => ?_, fun e => ?_, by omega, by omega⟩
      · rcases fresh _ e with e' | e'
        · exact nk e'
        · omega
      · rcases fresh _ e with e' | e'
        · exact ns e'
        · omega
set_option maxRecDepth 100000 in
set_option maxHeartbeats 4000000 in
theorem iSound (n : Nat) (hn : n ≤ 9) (w : World) : Calls Try.prog 15 #[.int .i64 n] w fun e w' => ∃ (v : Value) (ps : List Pt), e = .returned (.agg (sndI w.heap.size v)) ∧ SndFin w w' v ps n := by
  have h200 := made200
  have hn9 : (n : Int) ≤ 9 := by omega
  have W0d : ∃ W0, W0 = (((w.alloc (.cells zeroI 28)).alloc (.cells noughts200 23)).alloc (.cells (sndI w.heap.size (.slice none 0 0)) 28)).alloc (.cells sndNs 9) := ⟨_, rfl⟩
  obtain ⟨W0, hW0⟩ := W0d
  have HW0 : Hid _ := hW0
  have ST0 : Hid (SndSt w W0 (.slice none 0 0) [] 0) := by
    have n1 := alloc_at w (.cells zeroI 28)
    have A1 : Below w.heap.size w (w.alloc (.cells zeroI 28)) := (Below.refl _ _).alloc (Nat.le_refl _) _
    have A2 : Below (w.alloc (.cells zeroI 28)).heap.size (w.alloc (.cells zeroI 28)) ((w.alloc (.cells zeroI 28)).alloc (.cells noughts200 23)) := (Below.refl _ _).alloc (Nat.le_refl _) _
    have A3 : Below ((w.alloc (.cells zeroI 28)).alloc (.cells noughts200 23)).heap.size ((w.alloc (.cells zeroI 28)).alloc (.cells noughts200 23)) (((w.alloc (.cells zeroI 28)).alloc (.cells noughts200 23)).alloc (.cells (sndI w.heap.size (.slice none 0 0)) 28)) := (Below.refl _ _).alloc (Nat.le_refl _) _
    have A4 : Below (((w.alloc (.cells zeroI 28)).alloc (.cells noughts200 23)).alloc (.cells (sndI w.heap.size (.slice none 0 0)) 28)).heap.size (((w.alloc (.cells zeroI 28)).alloc (.cells noughts200 23)).alloc (.cells (sndI w.heap.size (.slice none 0 0)) 28)) W0 := by rw [hW0]; exact (Below.refl _ _).alloc (Nat.le_refl _) _
    refine ⟨below_step (below_step (below_step A1 A2) A3) A4, ?_, kept_on (kept_on (kept_on n1 A2) A3) A4, ?_, ?_, ⟨rfl, Or.inl ⟨rfl, rfl⟩⟩, rfl, fun j p hp => by cases hp⟩
    · rw [hW0, World.size_alloc, World.size_alloc, World.size_alloc, World.size_alloc]
      omega
    · have := alloc_at ((w.alloc (.cells zeroI 28)).alloc (.cells noughts200 23)) (.cells (sndI w.heap.size (.slice none 0 0)) 28)
      rw [World.size_alloc, World.size_alloc] at this
      exact kept_on this A4
    · have := alloc_at (((w.alloc (.cells zeroI 28)).alloc (.cells noughts200 23)).alloc (.cells (sndI w.heap.size (.slice none 0 0)) 28)) (.cells sndNs 9)
      rw [World.size_alloc, World.size_alloc, World.size_alloc, ← hW0] at this
      exact this
  obtain ⟨fi, hfi⟩ := undIm
  have HFI : Hid _ := hfi
  clear hfi
  clear hW0
  go_enter Try.func15, Try.ntmps15
  go_wp2_with fail
  have hmo : Try.prog.follows .mixedOrders = true := by kernel_rfl
  go_loopw [5, 6] (fun x _ wr => ∃ (k : Nat) (v : Value) (ps : List Pt) (V : World), V = wr ∧ k ≤ n ∧ x = .int .i64 k ∧ Hid (SndSt w V v ps k)) (fun x _ _ => n - (intOf x).toNat)
  case atStart => exact ⟨0, .slice none 0 0, [], _, rfl, Nat.zero_le _, rfl, (by have := ST0.out; rw [HW0.out] at this; exact this)⟩
  case round =>
    clear ST0 HW0 h200
    obtain ⟨k, v, ps, V, rfl, hk, rfl, hr⟩ := hrel
    by_cases hlt : k < n
    · have hk9 : k < 9 := by omega
      have k0 : (0 : Int) ≤ (k : Int) := by omega
      have k1 : (k : Int) < (n : Int) := by omega
      have k9 : (k : Int) < 9 := by omega
      obtain ⟨sa, cp, rfl⟩ := own_sl hr.out.own
      have a1 : IntKind.u32.wrap (200 + 60 * (k : Int) + 20) = 220 + 60 * (k : Int) := by rw [IntKind.wrap_u32]; omega
      have a2 : IntKind.u32.wrap (200 + 60 * (k : Int) + 60) = 260 + 60 * (k : Int) := by rw [IntKind.wrap_u32]; omega
      have a3 : IntKind.u32.wrap (200 + 60 * (k : Int) + 56) = 256 + 60 * (k : Int) := by rw [IntKind.wrap_u32]; omega
      have a4 : IntKind.i64.wrap (16 * (k : Int)) = 16 * (k : Int) := by rw [IntKind.wrap_i64]; omega
      have a5 : IntKind.i64.wrap (40 + 16 * (k : Int)) = 40 + 16 * (k : Int) := by rw [IntKind.wrap_i64]; omega
      have a6 : IntKind.i64.wrap (56 + 16 * (k : Int)) = 56 + 16 * (k : Int) := by rw [IntKind.wrap_i64]; omega
      have a7 : IntKind.u32.wrap (40 + 16 * (k : Int)) = 40 + 16 * (k : Int) := by rw [IntKind.wrap_u32]; omega
      have a8 : IntKind.u32.wrap (56 + 16 * (k : Int)) = 56 + 16 * (k : Int) := by rw [IntKind.wrap_u32]; omega
      have HBX : Hid _ := hr.out.box
      have HNM : Hid _ := hr.out.nms
      go_wp2_with fail
      refine wp_region_phase 36 (fun q w' => q = false → w'.heap[w.heap.size + 2]? = some (.cells (sndI w.heap.size (.slice sa k cp)) 28) ∧ w'.heap[w.heap.size + 3]? = some (.cells sndNs 9)) hmo (fun _ => ⟨HBX.out, HNM.out⟩) (fun hHeld => ?_)
      have hHeld := hHeld rfl
      first
        | refine ptake_read 0 (some 25) (v := ?_) rfl rfl (by kernel_rfl) (by kernel_rfl) (by kernel_rfl) rfl (by kernel_rfl) (fun _ _ _ h => h) (by kernel_rfl) (Or.inl ⟨by rfl, ?_⟩) (fun _ => hHeld) ?_
        | refine ptake_pure 0 (some 25) (v := ?_) rfl rfl (by kernel_rfl) (by kernel_rfl) (by kernel_rfl) rfl (fun _ _ _ h => h) (Or.inl ⟨by rfl, ?_⟩) (fun _ => hHeld) ?_
      rotate_left
      · intro w' hSw
        clear hSw
        go_simp
        try with_reducible rfl
      simp only [Act.put, List.setIfInBounds_toArray, List.set_cons_zero, List.set_cons_succ]
      first
        | refine ptake_read 1 (some 26) (v := ?_) rfl rfl (by kernel_rfl) (by kernel_rfl) (by kernel_rfl) rfl (by kernel_rfl) (fun _ _ _ h => h) (by kernel_rfl) (Or.inl ⟨by rfl, ?_⟩) (fun _ => hHeld) ?_
        | refine ptake_pure 1 (some 26) (v := ?_) rfl rfl (by kernel_rfl) (by kernel_rfl) (by kernel_rfl) rfl (fun _ _ _ h => h) (Or.inl ⟨by rfl, ?_⟩) (fun _ => hHeld) ?_
      rotate_left
      · intro w' hSw
        have q1 := (cells_of (hSw rfl).1).1 9 (.slice sa k cp) rfl
        clear hSw
        go_simp
        try with_reducible rfl
      simp only [Act.put, List.setIfInBounds_toArray, List.set_cons_zero, List.set_cons_succ]
      first
        | refine ptake_read 2 (some 27) (v := ?_) rfl rfl (by kernel_rfl) (by kernel_rfl) (by kernel_rfl) rfl (by kernel_rfl) (fun _ _ _ h => h) (by kernel_rfl) (Or.inl ⟨by rfl, ?_⟩) (fun _ => hHeld) ?_
        | refine ptake_pure 2 (some 27) (v := ?_) rfl rfl (by kernel_rfl) (by kernel_rfl) (by kernel_rfl) rfl (fun _ _ _ h => h) (Or.inl ⟨by rfl, ?_⟩) (fun _ => hHeld) ?_
      rotate_left
      · intro w' hSw
        clear hSw
        go_simp
        try with_reducible rfl
      simp only [Act.put, List.setIfInBounds_toArray, List.set_cons_zero, List.set_cons_succ]
      first
        | refine ptake_read 3 (some 28) (v := ?_) rfl rfl (by kernel_rfl) (by kernel_rfl) (by kernel_rfl) rfl (by kernel_rfl) (fun _ _ _ h => h) (by kernel_rfl) (Or.inl ⟨by rfl, ?_⟩) (fun _ => hHeld) ?_
        | refine ptake_pure 3 (some 28) (v := ?_) rfl rfl (by kernel_rfl) (by kernel_rfl) (by kernel_rfl) rfl (fun _ _ _ h => h) (Or.inl ⟨by rfl, ?_⟩) (fun _ => hHeld) ?_
      rotate_left
      · intro w' hSw
        clear hSw
        go_simp
        try with_reducible rfl
      simp only [Act.put, List.setIfInBounds_toArray, List.set_cons_zero, List.set_cons_succ]
      first
        | refine ptake_read 4 (some 29) (v := ?_) rfl rfl (by kernel_rfl) (by kernel_rfl) (by kernel_rfl) rfl (by kernel_rfl) (fun _ _ _ h => h) (by kernel_rfl) (Or.inl ⟨by rfl, ?_⟩) (fun _ => hHeld) ?_
        | refine ptake_pure 4 (some 29) (v := ?_) rfl rfl (by kernel_rfl) (by kernel_rfl) (by kernel_rfl) rfl (fun _ _ _ h => h) (Or.inl ⟨by rfl, ?_⟩) (fun _ => hHeld) ?_
      rotate_left
      · intro w' hSw
        clear hSw
        go_simp
        try with_reducible rfl
      simp only [Act.put, List.setIfInBounds_toArray, List.set_cons_zero, List.set_cons_succ]
      first
        | refine ptake_read 5 (some 30) (v := ?_) rfl rfl (by kernel_rfl) (by kernel_rfl) (by kernel_rfl) rfl (by kernel_rfl) (fun _ _ _ h => h) (by kernel_rfl) (Or.inl ⟨by rfl, ?_⟩) (fun _ => hHeld) ?_
        | refine ptake_pure 5 (some 30) (v := ?_) rfl rfl (by kernel_rfl) (by kernel_rfl) (by kernel_rfl) rfl (fun _ _ _ h => h) (Or.inl ⟨by rfl, ?_⟩) (fun _ => hHeld) ?_
      rotate_left
      · intro w' hSw
        have q5 := (cells_of (hSw rfl).2).1 k _ (sndNs_at k hk9)
        clear hSw
        go_simp
        try with_reducible rfl
      simp only [Act.put, List.setIfInBounds_toArray, List.set_cons_zero, List.set_cons_succ]
      first
        | refine ptake_read 6 (some 31) (v := ?_) rfl rfl (by kernel_rfl) (by kernel_rfl) (by kernel_rfl) rfl (by kernel_rfl) (fun _ _ _ h => h) (by kernel_rfl) (Or.inl ⟨by rfl, ?_⟩) (fun _ => hHeld) ?_
        | refine ptake_pure 6 (some 31) (v := ?_) rfl rfl (by kernel_rfl) (by kernel_rfl) (by kernel_rfl) rfl (fun _ _ _ h => h) (Or.inl ⟨by rfl, ?_⟩) (fun _ => hHeld) ?_
      rotate_left
      · intro w' hSw
        clear hSw
        go_simp
        try with_reducible rfl
      simp only [Act.put, List.setIfInBounds_toArray, List.set_cons_zero, List.set_cons_succ]
      first
        | refine ptake_read 7 (some 32) (v := ?_) rfl rfl (by kernel_rfl) (by kernel_rfl) (by kernel_rfl) rfl (by kernel_rfl) (fun _ _ _ h => h) (by kernel_rfl) (Or.inl ⟨by rfl, ?_⟩) (fun _ => hHeld) ?_
        | refine ptake_pure 7 (some 32) (v := ?_) rfl rfl (by kernel_rfl) (by kernel_rfl) (by kernel_rfl) rfl (fun _ _ _ h => h) (Or.inl ⟨by rfl, ?_⟩) (fun _ => hHeld) ?_
      rotate_left
      · intro w' hSw
        clear hSw
        go_simp
        try with_reducible rfl
      simp only [Act.put, List.setIfInBounds_toArray, List.set_cons_zero, List.set_cons_succ]
      first
        | refine ptake_read 8 (some 33) (v := ?_) rfl rfl (by kernel_rfl) (by kernel_rfl) (by kernel_rfl) rfl (by kernel_rfl) (fun _ _ _ h => h) (by kernel_rfl) (Or.inl ⟨by rfl, ?_⟩) (fun _ => hHeld) ?_
        | refine ptake_pure 8 (some 33) (v := ?_) rfl rfl (by kernel_rfl) (by kernel_rfl) (by kernel_rfl) rfl (fun _ _ _ h => h) (Or.inl ⟨by rfl, ?_⟩) (fun _ => hHeld) ?_
      rotate_left
      · intro w' hSw
        clear hSw
        go_simp
        try with_reducible rfl
      simp only [Act.put, List.setIfInBounds_toArray, List.set_cons_zero, List.set_cons_succ]
      first
        | refine ptake_read 9 (some 34) (v := ?_) rfl rfl (by kernel_rfl) (by kernel_rfl) (by kernel_rfl) rfl (by kernel_rfl) (fun _ _ _ h => h) (by kernel_rfl) (Or.inl ⟨by rfl, ?_⟩) (fun _ => hHeld) ?_
        | refine ptake_pure 9 (some 34) (v := ?_) rfl rfl (by kernel_rfl) (by kernel_rfl) (by kernel_rfl) rfl (fun _ _ _ h => h) (Or.inl ⟨by rfl, ?_⟩) (fun _ => hHeld) ?_
      rotate_left
      · intro w' hSw
        clear hSw
        go_simp
        try with_reducible rfl
      simp only [Act.put, List.setIfInBounds_toArray, List.set_cons_zero, List.set_cons_succ]
      first
        | refine ptake_read 10 (some 35) (v := ?_) rfl rfl (by kernel_rfl) (by kernel_rfl) (by kernel_rfl) rfl (by kernel_rfl) (fun _ _ _ h => h) (by kernel_rfl) (Or.inl ⟨by rfl, ?_⟩) (fun _ => hHeld) ?_
        | refine ptake_pure 10 (some 35) (v := ?_) rfl rfl (by kernel_rfl) (by kernel_rfl) (by kernel_rfl) rfl (fun _ _ _ h => h) (Or.inl ⟨by rfl, ?_⟩) (fun _ => hHeld) ?_
      rotate_left
      · intro w' hSw
        clear hSw
        go_simp
        try with_reducible rfl
      simp only [Act.put, List.setIfInBounds_toArray, List.set_cons_zero, List.set_cons_succ]
      first
        | refine ptake_read 11 (some 36) (v := ?_) rfl rfl (by kernel_rfl) (by kernel_rfl) (by kernel_rfl) rfl (by kernel_rfl) (fun _ _ _ h => h) (by kernel_rfl) (Or.inl ⟨by rfl, ?_⟩) (fun _ => hHeld) ?_
        | refine ptake_pure 11 (some 36) (v := ?_) rfl rfl (by kernel_rfl) (by kernel_rfl) (by kernel_rfl) rfl (fun _ _ _ h => h) (Or.inl ⟨by rfl, ?_⟩) (fun _ => hHeld) ?_
      rotate_left
      · intro w' hSw
        clear hSw
        go_simp
        try with_reducible rfl
      simp only [Act.put, List.setIfInBounds_toArray, List.set_cons_zero, List.set_cons_succ]
      first
        | refine ptake_read 12 (some 37) (v := ?_) rfl rfl (by kernel_rfl) (by kernel_rfl) (by kernel_rfl) rfl (by kernel_rfl) (fun _ _ _ h => h) (by kernel_rfl) (Or.inl ⟨by rfl, ?_⟩) (fun _ => hHeld) ?_
        | refine ptake_pure 12 (some 37) (v := ?_) rfl rfl (by kernel_rfl) (by kernel_rfl) (by kernel_rfl) rfl (fun _ _ _ h => h) (Or.inl ⟨by rfl, ?_⟩) (fun _ => hHeld) ?_
      rotate_left
      · intro w' hSw
        clear hSw
        go_simp
        try with_reducible rfl
      simp only [Act.put, List.setIfInBounds_toArray, List.set_cons_zero, List.set_cons_succ]
      first
        | refine ptake_read 13 (some 38) (v := ?_) rfl rfl (by kernel_rfl) (by kernel_rfl) (by kernel_rfl) rfl (by kernel_rfl) (fun _ _ _ h => h) (by kernel_rfl) (Or.inl ⟨by rfl, ?_⟩) (fun _ => hHeld) ?_
        | refine ptake_pure 13 (some 38) (v := ?_) rfl rfl (by kernel_rfl) (by kernel_rfl) (by kernel_rfl) rfl (fun _ _ _ h => h) (Or.inl ⟨by rfl, ?_⟩) (fun _ => hHeld) ?_
      rotate_left
      · intro w' hSw
        clear hSw
        go_simp
        try with_reducible rfl
      simp only [Act.put, List.setIfInBounds_toArray, List.set_cons_zero, List.set_cons_succ]
      first
        | refine ptake_read 14 (some 39) (v := ?_) rfl rfl (by kernel_rfl) (by kernel_rfl) (by kernel_rfl) rfl (by kernel_rfl) (fun _ _ _ h => h) (by kernel_rfl) (Or.inl ⟨by rfl, ?_⟩) (fun _ => hHeld) ?_
        | refine ptake_pure 14 (some 39) (v := ?_) rfl rfl (by kernel_rfl) (by kernel_rfl) (by kernel_rfl) rfl (fun _ _ _ h => h) (Or.inl ⟨by rfl, ?_⟩) (fun _ => hHeld) ?_
      rotate_left
      · intro w' hSw
        clear hSw
        go_simp
        try with_reducible rfl
      simp only [Act.put, List.setIfInBounds_toArray, List.set_cons_zero, List.set_cons_succ]
      first
        | refine ptake_read 15 (some 40) (v := ?_) rfl rfl (by kernel_rfl) (by kernel_rfl) (by kernel_rfl) rfl (by kernel_rfl) (fun _ _ _ h => h) (by kernel_rfl) (Or.inl ⟨by rfl, ?_⟩) (fun _ => hHeld) ?_
        | refine ptake_pure 15 (some 40) (v := ?_) rfl rfl (by kernel_rfl) (by kernel_rfl) (by kernel_rfl) rfl (fun _ _ _ h => h) (Or.inl ⟨by rfl, ?_⟩) (fun _ => hHeld) ?_
      rotate_left
      · intro w' hSw
        clear hSw
        go_simp
        try with_reducible rfl
      simp only [Act.put, List.setIfInBounds_toArray, List.set_cons_zero, List.set_cons_succ]
      first
        | refine ptake_read 16 (some 41) (v := ?_) rfl rfl (by kernel_rfl) (by kernel_rfl) (by kernel_rfl) rfl (by kernel_rfl) (fun _ _ _ h => h) (by kernel_rfl) (Or.inl ⟨by rfl, ?_⟩) (fun _ => hHeld) ?_
        | refine ptake_pure 16 (some 41) (v := ?_) rfl rfl (by kernel_rfl) (by kernel_rfl) (by kernel_rfl) rfl (fun _ _ _ h => h) (Or.inl ⟨by rfl, ?_⟩) (fun _ => hHeld) ?_
      rotate_left
      · intro w' hSw
        clear hSw
        go_simp
        try with_reducible rfl
      simp only [Act.put, List.setIfInBounds_toArray, List.set_cons_zero, List.set_cons_succ]
      first
        | refine ptake_read 17 (some 42) (v := ?_) rfl rfl (by kernel_rfl) (by kernel_rfl) (by kernel_rfl) rfl (by kernel_rfl) (fun _ _ _ h => h) (by kernel_rfl) (Or.inl ⟨by rfl, ?_⟩) (fun _ => hHeld) ?_
        | refine ptake_pure 17 (some 42) (v := ?_) rfl rfl (by kernel_rfl) (by kernel_rfl) (by kernel_rfl) rfl (fun _ _ _ h => h) (Or.inl ⟨by rfl, ?_⟩) (fun _ => hHeld) ?_
      rotate_left
      · intro w' hSw
        clear hSw
        go_simp
        try with_reducible rfl
      simp only [Act.put, List.setIfInBounds_toArray, List.set_cons_zero, List.set_cons_succ]
      first
        | refine ptake_read 18 (some 43) (v := ?_) rfl rfl (by kernel_rfl) (by kernel_rfl) (by kernel_rfl) rfl (by kernel_rfl) (fun _ _ _ h => h) (by kernel_rfl) (Or.inl ⟨by rfl, ?_⟩) (fun _ => hHeld) ?_
        | refine ptake_pure 18 (some 43) (v := ?_) rfl rfl (by kernel_rfl) (by kernel_rfl) (by kernel_rfl) rfl (fun _ _ _ h => h) (Or.inl ⟨by rfl, ?_⟩) (fun _ => hHeld) ?_
      rotate_left
      · intro w' hSw
        clear hSw
        go_simp
        try with_reducible rfl
      simp only [Act.put, List.setIfInBounds_toArray, List.set_cons_zero, List.set_cons_succ]
      first
        | refine ptake_read 19 (some 44) (v := ?_) rfl rfl (by kernel_rfl) (by kernel_rfl) (by kernel_rfl) rfl (by kernel_rfl) (fun _ _ _ h => h) (by kernel_rfl) (Or.inl ⟨by rfl, ?_⟩) (fun _ => hHeld) ?_
        | refine ptake_pure 19 (some 44) (v := ?_) rfl rfl (by kernel_rfl) (by kernel_rfl) (by kernel_rfl) rfl (fun _ _ _ h => h) (Or.inl ⟨by rfl, ?_⟩) (fun _ => hHeld) ?_
      rotate_left
      · intro w' hSw
        clear hSw
        go_simp
        try with_reducible rfl
      simp only [Act.put, List.setIfInBounds_toArray, List.set_cons_zero, List.set_cons_succ]
      first
        | refine ptake_read 20 (some 45) (v := ?_) rfl rfl (by kernel_rfl) (by kernel_rfl) (by kernel_rfl) rfl (by kernel_rfl) (fun _ _ _ h => h) (by kernel_rfl) (Or.inl ⟨by rfl, ?_⟩) (fun _ => hHeld) ?_
        | refine ptake_pure 20 (some 45) (v := ?_) rfl rfl (by kernel_rfl) (by kernel_rfl) (by kernel_rfl) rfl (fun _ _ _ h => h) (Or.inl ⟨by rfl, ?_⟩) (fun _ => hHeld) ?_
      rotate_left
      · intro w' hSw
        clear hSw
        go_simp
        try with_reducible rfl
      simp only [Act.put, List.setIfInBounds_toArray, List.set_cons_zero, List.set_cons_succ]
      first
        | refine ptake_read 21 (some 46) (v := ?_) rfl rfl (by kernel_rfl) (by kernel_rfl) (by kernel_rfl) rfl (by kernel_rfl) (fun _ _ _ h => h) (by kernel_rfl) (Or.inl ⟨by rfl, ?_⟩) (fun _ => hHeld) ?_
        | refine ptake_pure 21 (some 46) (v := ?_) rfl rfl (by kernel_rfl) (by kernel_rfl) (by kernel_rfl) rfl (fun _ _ _ h => h) (Or.inl ⟨by rfl, ?_⟩) (fun _ => hHeld) ?_
      rotate_left
      · intro w' hSw
        clear hSw
        go_simp
        try with_reducible rfl
      simp only [Act.put, List.setIfInBounds_toArray, List.set_cons_zero, List.set_cons_succ]
      first
        | refine ptake_read 22 (some 47) (v := ?_) rfl rfl (by kernel_rfl) (by kernel_rfl) (by kernel_rfl) rfl (by kernel_rfl) (fun _ _ _ h => h) (by kernel_rfl) (Or.inl ⟨by rfl, ?_⟩) (fun _ => hHeld) ?_
        | refine ptake_pure 22 (some 47) (v := ?_) rfl rfl (by kernel_rfl) (by kernel_rfl) (by kernel_rfl) rfl (fun _ _ _ h => h) (Or.inl ⟨by rfl, ?_⟩) (fun _ => hHeld) ?_
      rotate_left
      · intro w' hSw
        clear hSw
        go_simp
        try with_reducible rfl
      simp only [Act.put, List.setIfInBounds_toArray, List.set_cons_zero, List.set_cons_succ]
      first
        | refine ptake_read 23 (some 48) (v := ?_) rfl rfl (by kernel_rfl) (by kernel_rfl) (by kernel_rfl) rfl (by kernel_rfl) (fun _ _ _ h => h) (by kernel_rfl) (Or.inl ⟨by rfl, ?_⟩) (fun _ => hHeld) ?_
        | refine ptake_pure 23 (some 48) (v := ?_) rfl rfl (by kernel_rfl) (by kernel_rfl) (by kernel_rfl) rfl (fun _ _ _ h => h) (Or.inl ⟨by rfl, ?_⟩) (fun _ => hHeld) ?_
      rotate_left
      · intro w' hSw
        clear hSw
        go_simp
        try with_reducible rfl
      simp only [Act.put, List.setIfInBounds_toArray, List.set_cons_zero, List.set_cons_succ]
      first
        | refine ptake_read 25 (some 50) (v := ?_) rfl rfl (by kernel_rfl) (by kernel_rfl) (by kernel_rfl) rfl (by kernel_rfl) (fun _ _ _ h => h) (by kernel_rfl) (Or.inl ⟨by rfl, ?_⟩) (fun _ => hHeld) ?_
        | refine ptake_pure 25 (some 50) (v := ?_) rfl rfl (by kernel_rfl) (by kernel_rfl) (by kernel_rfl) rfl (fun _ _ _ h => h) (Or.inl ⟨by rfl, ?_⟩) (fun _ => hHeld) ?_
      rotate_left
      · intro w' hSw
        clear hSw
        go_simp
        try with_reducible rfl
      simp only [Act.put, List.setIfInBounds_toArray, List.set_cons_zero, List.set_cons_succ]
      first
        | refine ptake_read 26 (some 51) (v := ?_) rfl rfl (by kernel_rfl) (by kernel_rfl) (by kernel_rfl) rfl (by kernel_rfl) (fun _ _ _ h => h) (by kernel_rfl) (Or.inl ⟨by rfl, ?_⟩) (fun _ => hHeld) ?_
        | refine ptake_pure 26 (some 51) (v := ?_) rfl rfl (by kernel_rfl) (by kernel_rfl) (by kernel_rfl) rfl (fun _ _ _ h => h) (Or.inl ⟨by rfl, ?_⟩) (fun _ => hHeld) ?_
      rotate_left
      · intro w' hSw
        clear hSw
        go_simp
        try with_reducible rfl
      simp only [Act.put, List.setIfInBounds_toArray, List.set_cons_zero, List.set_cons_succ]
      first
        | refine ptake_read 27 (some 52) (v := ?_) rfl rfl (by kernel_rfl) (by kernel_rfl) (by kernel_rfl) rfl (by kernel_rfl) (fun _ _ _ h => h) (by kernel_rfl) (Or.inl ⟨by rfl, ?_⟩) (fun _ => hHeld) ?_
        | refine ptake_pure 27 (some 52) (v := ?_) rfl rfl (by kernel_rfl) (by kernel_rfl) (by kernel_rfl) rfl (fun _ _ _ h => h) (Or.inl ⟨by rfl, ?_⟩) (fun _ => hHeld) ?_
      rotate_left
      · intro w' hSw
        clear hSw
        go_simp
        try with_reducible rfl
      simp only [Act.put, List.setIfInBounds_toArray, List.set_cons_zero, List.set_cons_succ]
      first
        | refine ptake_read 28 (some 53) (v := ?_) rfl rfl (by kernel_rfl) (by kernel_rfl) (by kernel_rfl) rfl (by kernel_rfl) (fun _ _ _ h => h) (by kernel_rfl) (Or.inl ⟨by rfl, ?_⟩) (fun _ => hHeld) ?_
        | refine ptake_pure 28 (some 53) (v := ?_) rfl rfl (by kernel_rfl) (by kernel_rfl) (by kernel_rfl) rfl (fun _ _ _ h => h) (Or.inl ⟨by rfl, ?_⟩) (fun _ => hHeld) ?_
      rotate_left
      · intro w' hSw
        clear hSw
        go_simp
        try with_reducible rfl
      simp only [Act.put, List.setIfInBounds_toArray, List.set_cons_zero, List.set_cons_succ]
      first
        | refine ptake_read 29 (some 54) (v := ?_) rfl rfl (by kernel_rfl) (by kernel_rfl) (by kernel_rfl) rfl (by kernel_rfl) (fun _ _ _ h => h) (by kernel_rfl) (Or.inl ⟨by rfl, ?_⟩) (fun _ => hHeld) ?_
        | refine ptake_pure 29 (some 54) (v := ?_) rfl rfl (by kernel_rfl) (by kernel_rfl) (by kernel_rfl) rfl (fun _ _ _ h => h) (Or.inl ⟨by rfl, ?_⟩) (fun _ => hHeld) ?_
      rotate_left
      · intro w' hSw
        clear hSw
        go_simp
        try with_reducible rfl
      simp only [Act.put, List.setIfInBounds_toArray, List.set_cons_zero, List.set_cons_succ]
      first
        | refine ptake_read 30 (some 55) (v := ?_) rfl rfl (by kernel_rfl) (by kernel_rfl) (by kernel_rfl) rfl (by kernel_rfl) (fun _ _ _ h => h) (by kernel_rfl) (Or.inl ⟨by rfl, ?_⟩) (fun _ => hHeld) ?_
        | refine ptake_pure 30 (some 55) (v := ?_) rfl rfl (by kernel_rfl) (by kernel_rfl) (by kernel_rfl) rfl (fun _ _ _ h => h) (Or.inl ⟨by rfl, ?_⟩) (fun _ => hHeld) ?_
      rotate_left
      · intro w' hSw
        clear hSw
        go_simp
        try with_reducible rfl
      simp only [Act.put, List.setIfInBounds_toArray, List.set_cons_zero, List.set_cons_succ]
      refine ppair 24 31 (some 49) (some 56) (vi := .slice (some ⟨V.heap.size, 0, none⟩) 1 1) (wi := V.drew.alloc (.cells (sndKs k) 25)) (vj := .slice (some ⟨V.heap.size + 1, 0, none⟩) 2 2) (wij := (V.drew.alloc (.cells (sndKs k) 25)).alloc (.cells (sndSs k) 49))
        (uj := .slice (some ⟨V.heap.size, 0, none⟩) 2 2) (wj := V.drew.alloc (.cells (sndSs k) 49)) (ui := .slice (some ⟨V.heap.size + 1, 0, none⟩) 1 1) (wji := (V.drew.alloc (.cells (sndSs k) 49)).alloc (.cells (sndKs k) 25))
        rfl rfl rfl rfl (fun _ => by rfl) (fun _ => by rfl) (by kernel_rfl) (by kernel_rfl) (by kernel_rfl) ?_ ?_ ?_ ?_ (fun _ => ?_) (fun _ => ?_) (fun _ => ?_) (fun _ => ?_) ?_ ?_
      · simp [execOp, go_sem, Result.andThen, sndKs]
      · simp [execOp, go_sem, Result.andThen, sndKs, sndSs]
      · simp [execOp, go_sem, Result.andThen, sndSs]
      · simp [execOp, go_sem, Result.andThen, sndKs, sndSs]
      · exact ⟨kept_on hHeld.1 ((Below.refl _ _).alloc (Nat.le_refl _) _), kept_on hHeld.2 ((Below.refl _ _).alloc (Nat.le_refl _) _)⟩
      · exact ⟨kept_on hHeld.1 ((Below.refl _ _).alloc (Nat.le_refl _) _), kept_on hHeld.2 ((Below.refl _ _).alloc (Nat.le_refl _) _)⟩
      · exact ⟨kept_on hHeld.1 box2, kept_on hHeld.2 box2⟩
      · exact ⟨kept_on hHeld.1 box2, kept_on hHeld.2 box2⟩
      · simp only [Act.put, List.setIfInBounds_toArray, List.set_cons_zero, List.set_cons_succ]
        obtain ⟨W2, hW2⟩ : ∃ W2, W2 = (V.drew.alloc (.cells (sndKs k) 25)).alloc (.cells (sndSs k) 49) := ⟨_, rfl⟩
        rw [← hW2]
        have S2 : W2.heap.size = V.heap.size + 2 := by rw [hW2, World.size_alloc, World.size_alloc]; rfl
        have BV : Below V.drew.heap.size V.drew W2 := by rw [hW2]; exact box2
        have E1 : W2.heap[V.heap.size]? = some (.cells (sndKs k) 25) := by rw [hW2]; exact kept_on (alloc_at V.drew _) ((Below.refl _ _).alloc (Nat.le_refl _) _)
        have E2 : W2.heap[V.heap.size + 1]? = some (.cells (sndSs k) 49) := by rw [hW2]; have := alloc_at (V.drew.alloc (.cells (sndKs k) 25)) (.cells (sndSs k) 49); rw [World.size_alloc] at this; exact this
        have hHeld2 := And.intro (kept_on hHeld.1 BV) (kept_on hHeld.2 BV)
        have O2 : W2.ownsRow (w.heap.size + 4) 40 11 (.slice sa k cp) k (prow ps) := by rw [hW2]; exact (hr.out.own.drew.alloc _).alloc _
        have BV' : Below V.heap.size V W2 := (Below.refl V.heap.size V).drew.trans BV
        clear hW2 hHeld BV
        first
          | refine ptake_read 32 (some 57) (v := ?_) rfl rfl (by kernel_rfl) (by kernel_rfl) (by kernel_rfl) rfl (by kernel_rfl) (fun _ _ _ h => h) (by kernel_rfl) (Or.inl ⟨by rfl, ?_⟩) (fun _ => hHeld2) ?_
          | refine ptake_pure 32 (some 57) (v := ?_) rfl rfl (by kernel_rfl) (by kernel_rfl) (by kernel_rfl) rfl (fun _ _ _ h => h) (Or.inl ⟨by rfl, ?_⟩) (fun _ => hHeld2) ?_
        rotate_left
        · intro w' hSw
          clear hSw
          go_simp
          try with_reducible rfl
        simp only [Act.put, List.setIfInBounds_toArray, List.set_cons_zero, List.set_cons_succ]
        obtain ⟨i0, hi0, hz0, hz1, hz2⟩ := info_parts infoPt3
        have B3 : Below W2.heap.size W2 (W2.alloc (.cells (sndP k (V.heap.size) (V.heap.size + 1)).cells 40)) := (Below.refl _ _).alloc (Nat.le_refl _) _
        have hHeld3 := And.intro (kept_on hHeld2.1 B3) (kept_on hHeld2.2 B3)
        refine pturn 33 (some 58) (v := .slice (some ⟨W2.heap.size, 0, none⟩) 1 1) (w' := W2.alloc (.cells (sndP k (V.heap.size) (V.heap.size + 1)).cells 40)) rfl rfl (by rfl) (by kernel_rfl) (by simp [execOp, go_sem, Result.andThen, sndP, Pt.cells]) (fun _ => hHeld3) ?_
        simp only [Act.put, List.setIfInBounds_toArray, List.set_cons_zero, List.set_cons_succ]
        have NP := alloc_at W2 (.cells (sndP k (V.heap.size) (V.heap.size + 1)).cells 40)
        obtain ⟨v', W4, hrun, ho, hg, _, hv⟩ := run_append_own_at (P := Try.prog) (W2.alloc (.cells (sndP k (V.heap.size) (V.heap.size + 1)).cells 40)) (w.heap.size + 4) 26 26 40 i0 _ 11 88 Try.underlying26 hi0 hz0 hz1 hz2 rfl (by decide) (.slice sa k cp) k (prow ps) (O2.alloc _) ⟨W2.heap.size, 0, none⟩ 1 1 (sndP k (V.heap.size) (V.heap.size + 1)).cells.toList rfl (fun a u hu => by
          rw [show (⟨W2.heap.size, 0, none⟩ : Addr).add a = ⟨W2.heap.size, a, none⟩ by rw [Addr.add_lit]; simp]
          exact (cells_of NP).1 a u (by rw [← Array.getElem?_toList]; exact hu)) (fun u hu => by
          have := Pt.one (sndP k (V.heap.size) (V.heap.size + 1))
          rw [Array.all_eq_true'] at this
          exact this u (by simpa using hu)) (by unfold maxLen; omega) (by omega) (by rw [World.size_alloc, S2]; have := hr.out.size; omega)
        obtain ⟨sa', cp', rfl⟩ := own_sl ho
        have ST : Hid _ := snd_next hr.out (BV'.trans (B3.mono BV'.size)) (kept_on E1 B3) (kept_on E2 B3) (by omega) (by omega) hg ho hv
        have c4 : W4.heap[w.heap.size + 2]? = some (.cells (sndI w.heap.size (.slice sa k cp)) 28) := by
          rw [hg.block _ (by have := (Array.getElem?_eq_some_iff.1 hHeld3.1).1; exact this) (fun e => by have := (owns_lt2 hr.out.own _ e.symm).1; omega)]
          exact hHeld3.1
        have c5 : W4.heap[w.heap.size + 3]? = some (.cells sndNs 9) := by
          rw [hg.block _ (by have := (Array.getElem?_eq_some_iff.1 hHeld3.2).1; exact this) (fun e => by have := (owns_lt2 hr.out.own _ e.symm).1; omega)]
          exact hHeld3.2
        obtain ⟨ic, ifr, _⟩ := cells_of c4
        have c9 := ic 9 (.slice sa k cp) rfl
        have f9 := ifr 9
        have hHeld4 := And.intro c4 c5
        clear ic ifr hg ho hv NP c4 c5 E1 E2 O2 BV' B3 hHeld3 hHeld2
        refine pturn 34 (some 59) (v := .slice sa' (k + 1) cp') (w' := W4) rfl rfl (by rfl) (by kernel_rfl) (run_app2 rfl rfl rfl hrun) (fun _ => hHeld4) ?_
        simp only [Act.put, List.setIfInBounds_toArray, List.set_cons_zero, List.set_cons_succ]
        first
          | refine ptake_read 35 (some 60) (v := ?_) rfl rfl (by kernel_rfl) (by kernel_rfl) (by kernel_rfl) rfl (by kernel_rfl) (fun _ _ _ h => h) (by kernel_rfl) (Or.inl ⟨by rfl, ?_⟩) (fun _ => hHeld4) ?_
          | refine ptake_pure 35 (some 60) (v := ?_) rfl rfl (by kernel_rfl) (by kernel_rfl) (by kernel_rfl) rfl (fun _ _ _ h => h) (Or.inl ⟨by rfl, ?_⟩) (fun _ => hHeld4) ?_
        rotate_left
        · intro w' hSw
          clear hSw
          go_simp
          try with_reducible rfl
        simp only [Act.put, List.setIfInBounds_toArray, List.set_cons_zero, List.set_cons_succ]
        refine pskip 36 none rfl rfl (by rfl) (by kernel_rfl) (w' := W4.setCell ⟨w.heap.size + 2, 9, none⟩ (.slice sa' (k + 1) cp')) (by simp [execOp, go_sem, c9, f9, Result.andThen]) (fun h => (by cases h)) ?_
        refine pdone (by kernel_rfl) ?_ _
        refine NoPanic.normal ?_
        clear hHeld4 hrun c9 f9 hr S2
        go_wp2_with fail
        exact ⟨⟨k + 1, _, _, _, rfl, by omega, by go_num, ST.out⟩, by simp [intOf]; omega⟩
      · simp only [Act.put, List.setIfInBounds_toArray, List.set_cons_zero, List.set_cons_succ]
        obtain ⟨W2, hW2⟩ : ∃ W2, W2 = (V.drew.alloc (.cells (sndSs k) 49)).alloc (.cells (sndKs k) 25) := ⟨_, rfl⟩
        rw [← hW2]
        have S2 : W2.heap.size = V.heap.size + 2 := by rw [hW2, World.size_alloc, World.size_alloc]; rfl
        have BV : Below V.drew.heap.size V.drew W2 := by rw [hW2]; exact box2
        have E1 : W2.heap[V.heap.size + 1]? = some (.cells (sndKs k) 25) := by rw [hW2]; have := alloc_at (V.drew.alloc (.cells (sndSs k) 49)) (.cells (sndKs k) 25); rw [World.size_alloc] at this; exact this
        have E2 : W2.heap[V.heap.size]? = some (.cells (sndSs k) 49) := by rw [hW2]; exact kept_on (alloc_at V.drew _) ((Below.refl _ _).alloc (Nat.le_refl _) _)
        have hHeld2 := And.intro (kept_on hHeld.1 BV) (kept_on hHeld.2 BV)
        have O2 : W2.ownsRow (w.heap.size + 4) 40 11 (.slice sa k cp) k (prow ps) := by rw [hW2]; exact (hr.out.own.drew.alloc _).alloc _
        have BV' : Below V.heap.size V W2 := (Below.refl V.heap.size V).drew.trans BV
        clear hW2 hHeld BV
        first
          | refine ptake_read 32 (some 57) (v := ?_) rfl rfl (by kernel_rfl) (by kernel_rfl) (by kernel_rfl) rfl (by kernel_rfl) (fun _ _ _ h => h) (by kernel_rfl) (Or.inl ⟨by rfl, ?_⟩) (fun _ => hHeld2) ?_
          | refine ptake_pure 32 (some 57) (v := ?_) rfl rfl (by kernel_rfl) (by kernel_rfl) (by kernel_rfl) rfl (fun _ _ _ h => h) (Or.inl ⟨by rfl, ?_⟩) (fun _ => hHeld2) ?_
        rotate_left
        · intro w' hSw
          clear hSw
          go_simp
          try with_reducible rfl
        simp only [Act.put, List.setIfInBounds_toArray, List.set_cons_zero, List.set_cons_succ]
        obtain ⟨i0, hi0, hz0, hz1, hz2⟩ := info_parts infoPt3
        have B3 : Below W2.heap.size W2 (W2.alloc (.cells (sndP k (V.heap.size + 1) (V.heap.size)).cells 40)) := (Below.refl _ _).alloc (Nat.le_refl _) _
        have hHeld3 := And.intro (kept_on hHeld2.1 B3) (kept_on hHeld2.2 B3)
        refine pturn 33 (some 58) (v := .slice (some ⟨W2.heap.size, 0, none⟩) 1 1) (w' := W2.alloc (.cells (sndP k (V.heap.size + 1) (V.heap.size)).cells 40)) rfl rfl (by rfl) (by kernel_rfl) (by simp [execOp, go_sem, Result.andThen, sndP, Pt.cells]) (fun _ => hHeld3) ?_
        simp only [Act.put, List.setIfInBounds_toArray, List.set_cons_zero, List.set_cons_succ]
        have NP := alloc_at W2 (.cells (sndP k (V.heap.size + 1) (V.heap.size)).cells 40)
        obtain ⟨v', W4, hrun, ho, hg, _, hv⟩ := run_append_own_at (P := Try.prog) (W2.alloc (.cells (sndP k (V.heap.size + 1) (V.heap.size)).cells 40)) (w.heap.size + 4) 26 26 40 i0 _ 11 88 Try.underlying26 hi0 hz0 hz1 hz2 rfl (by decide) (.slice sa k cp) k (prow ps) (O2.alloc _) ⟨W2.heap.size, 0, none⟩ 1 1 (sndP k (V.heap.size + 1) (V.heap.size)).cells.toList rfl (fun a u hu => by
          rw [show (⟨W2.heap.size, 0, none⟩ : Addr).add a = ⟨W2.heap.size, a, none⟩ by rw [Addr.add_lit]; simp]
          exact (cells_of NP).1 a u (by rw [← Array.getElem?_toList]; exact hu)) (fun u hu => by
          have := Pt.one (sndP k (V.heap.size + 1) (V.heap.size))
          rw [Array.all_eq_true'] at this
          exact this u (by simpa using hu)) (by unfold maxLen; omega) (by omega) (by rw [World.size_alloc, S2]; have := hr.out.size; omega)
        obtain ⟨sa', cp', rfl⟩ := own_sl ho
        have ST : Hid _ := snd_next hr.out (BV'.trans (B3.mono BV'.size)) (kept_on E1 B3) (kept_on E2 B3) (by omega) (by omega) hg ho hv
        have c4 : W4.heap[w.heap.size + 2]? = some (.cells (sndI w.heap.size (.slice sa k cp)) 28) := by
          rw [hg.block _ (by have := (Array.getElem?_eq_some_iff.1 hHeld3.1).1; exact this) (fun e => by have := (owns_lt2 hr.out.own _ e.symm).1; omega)]
          exact hHeld3.1
        have c5 : W4.heap[w.heap.size + 3]? = some (.cells sndNs 9) := by
          rw [hg.block _ (by have := (Array.getElem?_eq_some_iff.1 hHeld3.2).1; exact this) (fun e => by have := (owns_lt2 hr.out.own _ e.symm).1; omega)]
          exact hHeld3.2
        obtain ⟨ic, ifr, _⟩ := cells_of c4
        have c9 := ic 9 (.slice sa k cp) rfl
        have f9 := ifr 9
        have hHeld4 := And.intro c4 c5
        clear ic ifr hg ho hv NP c4 c5 E1 E2 O2 BV' B3 hHeld3 hHeld2
        refine pturn 34 (some 59) (v := .slice sa' (k + 1) cp') (w' := W4) rfl rfl (by rfl) (by kernel_rfl) (run_app2 rfl rfl rfl hrun) (fun _ => hHeld4) ?_
        simp only [Act.put, List.setIfInBounds_toArray, List.set_cons_zero, List.set_cons_succ]
        first
          | refine ptake_read 35 (some 60) (v := ?_) rfl rfl (by kernel_rfl) (by kernel_rfl) (by kernel_rfl) rfl (by kernel_rfl) (fun _ _ _ h => h) (by kernel_rfl) (Or.inl ⟨by rfl, ?_⟩) (fun _ => hHeld4) ?_
          | refine ptake_pure 35 (some 60) (v := ?_) rfl rfl (by kernel_rfl) (by kernel_rfl) (by kernel_rfl) rfl (fun _ _ _ h => h) (Or.inl ⟨by rfl, ?_⟩) (fun _ => hHeld4) ?_
        rotate_left
        · intro w' hSw
          clear hSw
          go_simp
          try with_reducible rfl
        simp only [Act.put, List.setIfInBounds_toArray, List.set_cons_zero, List.set_cons_succ]
        refine pskip 36 none rfl rfl (by rfl) (by kernel_rfl) (w' := W4.setCell ⟨w.heap.size + 2, 9, none⟩ (.slice sa' (k + 1) cp')) (by simp [execOp, go_sem, c9, f9, Result.andThen]) (fun h => (by cases h)) ?_
        refine pdone (by kernel_rfl) ?_ _
        refine NoPanic.normal ?_
        clear hHeld4 hrun c9 f9 hr S2
        go_wp2_with fail
        exact ⟨⟨k + 1, _, _, _, rfl, by omega, by go_num, ST.out⟩, by simp [intOf]; omega⟩
    · have hkn : k = n := by omega
      subst hkn
      have k1 : ¬ (k : Int) < (k : Int) := by omega
      obtain ⟨sa, cp, rfl⟩ := own_sl hr.out.own
      go_wp2_with (first | (refine wpList_row (by rfl) 28 (.tmp 3) rfl (w.heap.size + 2) rfl 28 (sndI w.heap.size (.slice sa k cp)) _ hr.out.box HFI.out rfl infoIm ?_) | (refine wpList_store_row rfl 28 (.tmp 2) (.tmp 61) rfl w.heap.size (sndI w.heap.size (.slice sa k cp)) rfl rfl 28 zeroI hr.out.res infoIm rfl (snd_one _ _ _ _) ?_))
      refine bodyPost_ret (results_cell_row rfl _ _ _ _ _ _ _ rfl (setRow_heap _ _ _ _ _ _ hr.out.res) HFI.out rfl infoIm) rfl ?_
      exact ⟨_, rfl, ps, hr.out.fin _⟩
end Go.Proofs.Ytfjppgfnjjmkpaa
