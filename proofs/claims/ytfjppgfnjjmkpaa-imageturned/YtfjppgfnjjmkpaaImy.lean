/-
  An image in a box with its parts in blocks: turned step by step.
-/
import Derived.Test.YtfjppgfnjjmkpaaImx
import Derived.Deep.OwnRows
namespace Go.Proofs.Ytfjppgfnjjmkpaa
open Go.RowKit Go.Sort

structure RuM (w V : World) (ex : Nat → Obj → Prop) (B g : Nat) (J : Im) (kb sb : Nat → Nat) : Prop where
  low : Below w.heap.size w V
  at' : w.heap.size ≤ B
  box : V.heap[B]? = some (.cells J.cells 28)
  ps : ImB V g J.ps kb sb
  pa : J.pa = some ⟨g, 0, none⟩
  gB : g ≠ B ∧ ∀ j, j < J.ps.length → kb j ≠ B ∧ sb j ≠ B
  gw : w.heap.size ≤ g ∧ ∀ j, j < J.ps.length → w.heap.size ≤ kb j ∧ w.heap.size ≤ sb j
  exk : ∀ D ob, ex D ob → V.heap[D]? = some ob ∧ D ≠ B ∧ D ≠ g ∧ ∀ j, j < J.ps.length → kb j ≠ D ∧ sb j ≠ D
theorem RuSt.m {w V : World} {B D g pc : Nat} {kb sb : Nat → Nat} (h : RuSt w V B D g pc kb sb) : RuM w V (fun d ob => d = D ∧ ob = .cells wantC 3) B g (ruIm w g pc [sndP 0 (kb 0) (sb 0), sndP 1 (kb 1) (sb 1), sndP 2 (kb 2) (sb 2)]) kb sb := by
  refine ⟨h.low, h.at', h.box, h.ps, rfl, ⟨h.gB.1, fun j hj => ?_⟩, ⟨h.gw.1, h.gw.2⟩, ?_⟩
  · have := h.gB.2.2 j hj
    exact ⟨this.1, this.2.2.1⟩
  · rintro _ _ ⟨rfl, rfl⟩
    refine ⟨h.wnt, h.db, fun e => h.gB.2.1 e.symm, fun j hj => ?_⟩
    have := h.gB.2.2 j hj
    exact ⟨this.2.1, this.2.2.2⟩
theorem RuM.fin {w V : World} {B D g : Nat} {J : Im} {kb sb : Nat → Nat} (h : RuM w V (fun d ob => d = D ∧ ob = .cells wantC 3) B g J kb sb) : RuEnd w V B D J :=
  ⟨h.low, h.box, (h.exk D _ ⟨rfl, rfl⟩).1, g, 0, by rw [h.pa]; exact h.ps.parts⟩
theorem RuM.kept {w V V' : World} {ex : Nat → Obj → Prop} {B g : Nat} {J : Im} {kb sb : Nat → Nat} (h : RuM w V ex B g J kb sb) (hl : Below w.heap.size w V') (e : ∀ (q : Nat) (ob : Obj), V.heap[q]? = some ob → V'.heap[q]? = some ob) : RuM w V' ex B g J kb sb :=
  ⟨hl, h.at', e _ _ h.box, h.ps.kept e, h.pa, h.gB, h.gw, fun D ob hd => ⟨e _ _ (h.exk D ob hd).1, (h.exk D ob hd).2⟩⟩
theorem RuM.below {w V V' : World} {ex : Nat → Obj → Prop} {B g : Nat} {J : Im} {kb sb : Nat → Nat} (h : RuM w V ex B g J kb sb) (hb : Below V.heap.size V V') : RuM w V' ex B g J kb sb :=
  h.kept (below_step h.low hb) fun _ _ e => kept_on e hb
theorem RuM.setB {w V : World} {ex : Nat → Obj → Prop} {B g : Nat} {J : Im} {kb sb : Nat → Nat} (h : RuM w V ex B g J kb sb) {c : Nat} (J' : Im) (x : Value) (hc : J.cells.setIfInBounds c x = J'.cells) (hps : J'.ps = J.ps) (hpa : J'.pa = J.pa) : RuM w (V.setCell ⟨B, c, none⟩ x) ex B g J' kb sb := by
  have keep : ∀ q, q ≠ B → (V.setCell ⟨B, c, none⟩ x).heap[q]? = V.heap[q]? := fun q hq => Below.heap_setCell _ _ _ _ hq
  have hI : ImB (V.setCell ⟨B, c, none⟩ x) g J.ps kb sb := by
    obtain ⟨⟨G, hG, hr⟩, hk, hs, hn⟩ := h.ps
    exact ⟨⟨G, by rw [keep g h.gB.1]; exact hG, hr⟩, fun i p hi => (hk i p hi).keep (keep _ (h.gB.2 i (List.getElem?_eq_some_iff.1 hi).1).1), fun i p hi => (hs i p hi).keep (keep _ (h.gB.2 i (List.getElem?_eq_some_iff.1 hi).1).2), hn⟩
  refine ⟨h.low.setCell h.at' _, h.at', by rw [← hc]; exact heap_setCell_at x h.box, by rw [hps]; exact hI, by rw [hpa]; exact h.pa, by rw [hps]; exact h.gB, by rw [hps]; exact h.gw, fun D ob hd => ?_⟩
  obtain ⟨a, b, c⟩ := h.exk D ob hd
  exact ⟨by rw [keep D b]; exact a, b, by rw [hps]; exact c⟩
theorem RuM.setP {w V : World} {ex : Nat → Obj → Prop} {B g : Nat} {J : Im} {kb sb : Nat → Nat} (h : RuM w V ex B g J kb sb) {q c : Nat} {p : Pt} (p' : Pt) (J' : Im) (x : Value) (hq : J.ps[q]? = some p) (hc : c < 11) (hp : p'.cells.toList = p.cells.toList.set c x)
    (hs : p'.ss = p.ss ∧ p'.sl = p.sl ∧ p'.sa = p.sa) (hk : KeyB V p' (kb q)) (hJ : J'.cells = J.cells) (hps : J'.ps = J.ps.set q p') (hpa : J'.pa = J.pa) : RuM w (V.setCell ⟨g, q * 11 + c, none⟩ x) ex B g J' kb sb := by
  have hn := h.ps.ne
  have ql : q < J.ps.length := (List.getElem?_eq_some_iff.1 hq).1
  have hl : J'.ps.length = J.ps.length := by rw [hps, List.length_set]
  have h2 := h.ps.putP (q := q) (p' := p') (kb' := kb) hq hc hp hs hk (fun _ _ => rfl) ⟨(hn q q ql ql).1, fun j hj => ⟨(hn q j ql hj).2.2.1, fun e => ((hn q j ql hj).2.2.2 (fun e' => e e'.symm)).1⟩⟩
  refine ⟨h.low.setCell h.gw.1 _, h.at', ?_, by rw [hps]; exact h2, by rw [hpa]; exact h.pa, by rw [hl]; exact h.gB, by rw [hl]; exact h.gw, fun D ob hd => ?_⟩
  · rw [Below.heap_setCell _ _ _ _ (show B ≠ g from fun e => h.gB.1 e.symm), hJ]
    exact h.box
  · obtain ⟨a, b, c, d⟩ := h.exk D ob hd
    exact ⟨by rw [Below.heap_setCell _ _ _ _ (show D ≠ g from c)]; exact a, b, c, by rw [hl]; exact d⟩
/-- A part's keys become another slice, of a block of their own. -/
theorem RuM.setKs {w V : World} {ex : Nat → Obj → Prop} {B g : Nat} {J : Im} {kb sb : Nat → Nat} (h : RuM w V ex B g J kb sb) {q : Nat} {p : Pt} (p' : Pt) (J' : Im) (x : Value) (nb : Nat) (hq : J.ps[q]? = some p) (hp : p'.cells.toList = p.cells.toList.set 9 x)
    (hs : p'.ss = p.ss ∧ p'.sl = p.sl ∧ p'.sa = p.sa) (hk : KeyB V p' nb) (hJ : J'.cells = J.cells) (hps : J'.ps = J.ps.set q p') (hpa : J'.pa = J.pa)
    (hnb : nb ≠ g ∧ nb ≠ B ∧ w.heap.size ≤ nb ∧ (∀ j, j < J.ps.length → nb ≠ sb j ∧ (j ≠ q → nb ≠ kb j)) ∧ ∀ D ob, ex D ob → nb ≠ D) : RuM w (V.setCell ⟨g, q * 11 + 9, none⟩ x) ex B g J' (fun i => if i = q then nb else kb i) sb := by
  have hn := h.ps.ne
  have ql : q < J.ps.length := (List.getElem?_eq_some_iff.1 hq).1
  have hl : J'.ps.length = J.ps.length := by rw [hps, List.length_set]
  have eq' : (if q = q then nb else kb q) = nb := if_pos rfl
  have h2 := h.ps.putP (q := q) (c := 9) (p' := p') (kb' := fun i => if i = q then nb else kb i) hq (by omega) hp hs (by show KeyB V p' (if q = q then nb else kb q); rw [eq']; exact hk) (fun i hi => if_neg hi)
    ⟨by show (if q = q then nb else kb q) ≠ g; rw [eq']; exact hnb.1, fun j hj => by show (if q = q then nb else kb q) ≠ sb j ∧ (j ≠ q → (if q = q then nb else kb q) ≠ kb j); rw [eq']; exact hnb.2.2.2.1 j hj⟩
  refine ⟨h.low.setCell h.gw.1 _, h.at', ?_, by rw [hps]; exact h2, by rw [hpa]; exact h.pa, ?_, ?_, fun D ob hd => ?_⟩
  · rw [Below.heap_setCell _ _ _ _ (show B ≠ g from fun e => h.gB.1 e.symm), hJ]
    exact h.box
  · rw [hl]
    refine ⟨h.gB.1, fun j hj => ⟨?_, (h.gB.2 j hj).2⟩⟩
    show (if j = q then nb else kb j) ≠ B
    split
    · exact hnb.2.1
    · exact (h.gB.2 j hj).1
  · rw [hl]
    refine ⟨h.gw.1, fun j hj => ⟨?_, (h.gw.2 j hj).2⟩⟩
    show w.heap.size ≤ (if j = q then nb else kb j)
    split
    · exact hnb.2.2.1
    · exact (h.gw.2 j hj).1
  · obtain ⟨a, b, c, d⟩ := h.exk D ob hd
    refine ⟨by rw [Below.heap_setCell _ _ _ _ (show D ≠ g from c)]; exact a, b, c, ?_⟩
    rw [hl]
    refine fun j hj => ⟨?_, (d j hj).2⟩
    show (if j = q then nb else kb j) ≠ D
    split
    · exact hnb.2.2.2.2 D ob hd
    · exact (d j hj).1
theorem RuM.setK {w V : World} {ex : Nat → Obj → Prop} {B g : Nat} {J : Im} {kb sb : Nat → Nat} (h : RuM w V ex B g J kb sb) {q m c : Nat} {p : Pt} {r : Rg} (r' : Rg) (J' : Im) (x : Value) (hq : J.ps[q]? = some p) (hm : p.ks[m]? = some r) (hc : c < 4) (hr' : kcell r' = (kcell r).set c x)
    (hJ : J'.cells = J.cells) (hps : J'.ps = J.ps.set q (p.keysTo (p.ks.set m r'))) (hpa : J'.pa = J.pa) : RuM w (V.setCell ⟨kb q, m * 4 + c, none⟩ x) ex B g J' kb sb := by
  have ql : q < J.ps.length := (List.getElem?_eq_some_iff.1 hq).1
  have hl : J'.ps.length = J.ps.length := by rw [hps, List.length_set]
  have h2 := h.ps.putK (q := q) (m := m) hq hm hc hr'
  refine ⟨h.low.setCell (h.gw.2 q ql).1 _, h.at', ?_, by rw [hps]; exact h2, by rw [hpa]; exact h.pa, by rw [hl]; exact h.gB, by rw [hl]; exact h.gw, fun D ob hd => ?_⟩
  · rw [Below.heap_setCell _ _ _ _ (show B ≠ kb q from fun e => (h.gB.2 q ql).1 e.symm), hJ]
    exact h.box
  · obtain ⟨a, b, c, d⟩ := h.exk D ob hd
    exact ⟨by rw [Below.heap_setCell _ _ _ _ (show D ≠ kb q from fun e => (d q ql).1 e.symm)]; exact a, b, c, by rw [hl]; exact d⟩
theorem RuM.setS {w V : World} {ex : Nat → Obj → Prop} {B g : Nat} {J : Im} {kb sb : Nat → Nat} (h : RuM w V ex B g J kb sb) {q m c : Nat} {p : Pt} {s : ByteArray × Int} (s' : ByteArray × Int) (J' : Im) (x : Value) (hq : J.ps[q]? = some p) (hm : p.ss[m]? = some s) (hc : c < 2) (hr' : scell s' = (scell s).set c x)
    (hJ : J'.cells = J.cells) (hps : J'.ps = J.ps.set q (p.symsTo (p.ss.set m s'))) (hpa : J'.pa = J.pa) : RuM w (V.setCell ⟨sb q, m * 2 + c, none⟩ x) ex B g J' kb sb := by
  have ql : q < J.ps.length := (List.getElem?_eq_some_iff.1 hq).1
  have hl : J'.ps.length = J.ps.length := by rw [hps, List.length_set]
  have h2 := h.ps.putS (q := q) (m := m) hq hm hc hr'
  refine ⟨h.low.setCell (h.gw.2 q ql).2 _, h.at', ?_, by rw [hps]; exact h2, by rw [hpa]; exact h.pa, by rw [hl]; exact h.gB, by rw [hl]; exact h.gw, fun D ob hd => ?_⟩
  · rw [Below.heap_setCell _ _ _ _ (show B ≠ sb q from fun e => (h.gB.2 q ql).2 e.symm), hJ]
    exact h.box
  · obtain ⟨a, b, c, d⟩ := h.exk D ob hd
    exact ⟨by rw [Below.heap_setCell _ _ _ _ (show D ≠ sb q from fun e => (d q ql).2 e.symm)]; exact a, b, c, by rw [hl]; exact d⟩
theorem made65537 (w : World) : (Instr.makeSlice 22 (.int .i64 65537) (.int .i64 65537)).run Try.prog w = .ok (.slice (some ⟨w.heap.size, 0, none⟩) 65537 65537) (w.alloc (.cells (madeCells #[.int .u32 0] 65537) 23)) :=
  run_make_row' (P := Try.prog) 22 23 (.int .u32 0) 4 Try.underlying22 (by kernel_rfl) rfl .i64 .i64 65537 (by omega) (by omega) w
end Go.Proofs.Ytfjppgfnjjmkpaa
