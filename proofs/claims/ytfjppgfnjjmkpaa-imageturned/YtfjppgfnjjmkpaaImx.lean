/-
  What ImageRules and ImageTurned share: images that may be told by evaluation; the end of a law.
-/
import Derived.Test.YtfjppgfnjjmkpaaImw
import Derived.Test.YtfjppgfnjjmkpaaImu
import Derived.Deep.QuietTactic
import Derived.Lib.QuietBelow
namespace Go.Proofs.Ytfjppgfnjjmkpaa
open Go.RowKit Go.Sort

theorem wp_world {P : Program} {ops : Array Oper} {Q : Exit → Act → World → Prop} {l : List Oper} {a : Act} {W W' : World} (e : W = W') (h : wpList P ops Q l a W) : wpList P ops Q l a W' := e ▸ h
theorem wpQuiet_load {P : Program} {ops : Array Oper} {C : World → Prop} {Q : Act → Prop} {o : Oper} {rest : List Oper} {a : Act} (v : Value) (hw : Region.wanted o (yielded ops a.tmps) = true) (hr : ∀ w', C w' → (execOp a.eval o).run P w' = .ok (.value v) w') (h : wpQuiet P ops C Q rest (a.put o.dst v)) :
    wpQuiet P ops C Q (o :: rest) a := by
  unfold wpQuiet
  rw [if_pos hw]
  exact ⟨v, fun w' hc => quiet_run (hr w' hc), h⟩
def u32B (x : Int) : Bool := decide (0 ≤ x) && decide (x < 4294967296)
def rgB (r : Rg) : Bool := u32B r.lo && u32B r.hi
def ptB (p : Pt) : Bool := decide (p.name.size ≤ 1000) && rgB p.code && rgB p.data && p.ks.all rgB && (p.ss.all fun s => decide (s.1.size ≤ 1000) && u32B s.2) && decide (p.ks.length ≤ 1000) && decide (p.ss.length ≤ 1000)
def imB (i : Im) : Bool := decide (i.wl ≤ 100000) && rgB i.kern && rgB i.keys && decide (i.ps.length ≤ 100) && i.ps.all ptB
theorem u32B_ok {x : Int} (h : u32B x = true) : U32 x := by
  unfold u32B at h
  simp only [Bool.and_eq_true, decide_eq_true_eq] at h
  exact h
theorem rgB_ok {r : Rg} (h : rgB r = true) : RgU r := by
  unfold rgB at h
  simp only [Bool.and_eq_true] at h
  exact ⟨u32B_ok h.1, u32B_ok h.2⟩
theorem ptB_ok {p : Pt} (h : ptB p = true) : PtOk p := by
  unfold ptB at h
  simp only [Bool.and_eq_true, decide_eq_true_eq, List.all_eq_true] at h
  obtain ⟨⟨⟨⟨⟨⟨a, b⟩, c⟩, d⟩, e⟩, f⟩, g⟩ := h
  have hm : 1000 ≤ maxLen := by unfold maxLen; omega
  exact ⟨Nat.le_trans a hm, rgB_ok b, rgB_ok c, fun r hr => rgB_ok (d r hr), fun s hs => ⟨Nat.le_trans (e s hs).1 hm, u32B_ok (e s hs).2⟩, f, g⟩
theorem imB_ok {i : Im} (h : imB i = true) : ImOk i ∧ i.ps.length ≤ 100 := by
  unfold imB at h
  simp only [Bool.and_eq_true, decide_eq_true_eq, List.all_eq_true] at h
  obtain ⟨⟨⟨⟨a, b⟩, c⟩, d⟩, e⟩ := h
  exact ⟨⟨Nat.le_trans a (by unfold maxLen; omega), rgB_ok b, rgB_ok c, by omega, fun p hp => ptB_ok (e p hp)⟩, d⟩
theorem im_und : ∃ d, Try.prog.underlying 28 = some d ∧ d.isRow = true := ⟨_, Try.underlying28, rfl⟩
/-- The box of an image, read in every world that grew out of one. -/
theorem im_load {o : Oper} {a : Act} {V : World} {B : Nat} {J : Im} (hb : V.heap[B]? = some (.cells J.cells 28)) (x : Operand) (ho : o.op = .load 28 x) (hx : a.eval x = .pointer (some ⟨B, 0, none⟩)) :
    ∀ w', (∃ p : Regrown, w' = grow (redrawn V p.d) p.os) → (execOp a.eval o).run Try.prog w' = .ok (.value (.agg J.cells)) w' := by
  rintro _ ⟨⟨d, os⟩, rfl⟩
  obtain ⟨u, hu, hr⟩ := im_und
  exact run_mid 28 x ho B 0 hx J.cells u (im_rng (kept_on hb (below_regrown V d os))) hu hr (by rw [Im.size]; exact infoIm)
theorem checkIn {V : World} {J : Im} {b off : Nat} (hp : PartsAt V b off J.pa J.ps) (hJ : imB J = true) (want : Int) (hc : checkV J = want) (d : Nat) (os : Array Obj) :
    Calls Try.prog 11 #[.agg J.cells] (grow (redrawn V d) os) fun e w'' => e = .returned (.int .i64 want) ∧ ∃ p : Regrown, w'' = grow (redrawn V p.d) p.os :=
  Calls.regrown_of (hc ▸ iCheck (hp.below (below_regrown V d os)) (imB_ok hJ).1 (imB_ok hJ).2)
theorem awakeIn (V : World) (d : Nat) (os : Array Obj) : Calls Try.prog 8 #[] (grow (redrawn V d) os) fun e w'' => e = .returned (.bool true) ∧ ∃ p : Regrown, w'' = grow (redrawn V p.d) p.os :=
  Calls.regrown_of (iawake _)
def wantL : List Int := [1, 1, 2, 2, 2, 3, 3, 4, 4, 4, 4, 5, 5, 5, 5, 6, 6, 6, 7, 7, 7, 7, 0, 0, 4, 6]
def wantC : Array Value := #[.int .i64 1, .int .i64 1, .int .i64 2, .int .i64 2, .int .i64 2, .int .i64 3, .int .i64 3, .int .i64 4, .int .i64 4, .int .i64 4, .int .i64 4, .int .i64 5, .int .i64 5, .int .i64 5, .int .i64 5, .int .i64 6, .int .i64 6, .int .i64 6, .int .i64 7, .int .i64 7, .int .i64 7, .int .i64 7, .int .i64 0, .int .i64 0, .int .i64 4, .int .i64 6]
/-- What lies there when the switch begins: the box, what is wanted, the parts. -/
structure RuSt (w V : World) (B D g pc : Nat) (kb sb : Nat → Nat) : Prop where
  low : Below w.heap.size w V
  at' : w.heap.size ≤ B
  db : D ≠ B
  box : V.heap[B]? = some (.cells (sndI w.heap.size (.slice (some ⟨g, 0, none⟩) 3 pc)) 28)
  wnt : V.heap[D]? = some (.cells wantC 3)
  ps : ImB V g [sndP 0 (kb 0) (sb 0), sndP 1 (kb 1) (sb 1), sndP 2 (kb 2) (sb 2)] kb sb
  gB : g ≠ B ∧ g ≠ D ∧ ∀ j, j < 3 → kb j ≠ B ∧ kb j ≠ D ∧ sb j ≠ B ∧ sb j ≠ D
  gw : w.heap.size ≤ g ∧ ∀ j, j < 3 → w.heap.size ≤ kb j ∧ w.heap.size ≤ sb j
theorem snd_three {ps : List Pt} {kb sb : Nat → Nat} (hl : ps.length = 3) (h : ∀ (j : Nat) p, ps[j]? = some p → p = sndP j (kb j) (sb j)) : ps = [sndP 0 (kb 0) (sb 0), sndP 1 (kb 1) (sb 1), sndP 2 (kb 2) (sb 2)] := by
  match ps, hl, h with
  | [a, b, c], _, h => rw [h 0 a rfl, h 1 b rfl, h 2 c rfl]
theorem ImB.lt {V : World} {g : Nat} {ps : List Pt} {kb sb : Nat → Nat} (h : ImB V g ps kb sb) : g < V.heap.size ∧ ∀ j, j < ps.length → kb j < V.heap.size ∧ sb j < V.heap.size := by
  obtain ⟨⟨G, hG, _⟩, hk, hs, _⟩ := h
  refine ⟨(Array.getElem?_eq_some_iff.1 hG).1, fun j hj => ?_⟩
  obtain ⟨_, _, K, h3, _⟩ := hk j _ (List.getElem?_eq_getElem hj)
  obtain ⟨_, _, L, j3, _⟩ := hs j _ (List.getElem?_eq_getElem hj)
  exact ⟨(Array.getElem?_eq_some_iff.1 h3).1, (Array.getElem?_eq_some_iff.1 j3).1⟩
theorem ru_begin {w V V1 : World} {g pc : Nat} {kb sb : Nat → Nat} {ps : List Pt} (hl : Below w.heap.size w V) (hn : ps.length = 3) (hi : ImB V g ps kb sb) (hj : ∀ (j : Nat) p, ps[j]? = some p → p = sndP j (kb j) (sb j) ∧ w.heap.size + 4 ≤ kb j ∧ w.heap.size + 4 ≤ sb j) (hg : w.heap.size + 4 ≤ g)
    (h1 : V1.heap[V.heap.size]? = some (.cells (sndI w.heap.size (.slice (some ⟨g, 0, none⟩) 3 pc)) 28)) (A1 : Below V.heap.size V V1) : RuSt w (V1.alloc (.cells wantC 3)) V.heap.size V1.heap.size g pc kb sb := by
  obtain rfl := snd_three hn (fun j p e => (hj j p e).1)
  have A2 : Below V1.heap.size V1 (V1.alloc (.cells wantC 3)) := (Below.refl _ _).alloc (Nat.le_refl _) _
  have L1 := hi.lt
  have hsz := hl.size
  have l1 : V.heap.size < V1.heap.size := (Array.getElem?_eq_some_iff.1 h1).1
  refine ⟨below_step (below_step hl A1) A2, hl.size, by omega, kept_on h1 A2, alloc_at _ _, (hi.below A1).below A2, ⟨by omega, by omega, fun j hj3 => ?_⟩, by omega, fun j hj3 => ?_⟩
  · have := L1.2 j hj3
    omega
  · have e : ∃ p, [sndP 0 (kb 0) (sb 0), sndP 1 (kb 1) (sb 1), sndP 2 (kb 2) (sb 2)][j]? = some p := ⟨_, List.getElem?_eq_getElem hj3⟩
    obtain ⟨p, e⟩ := e
    have := hj j p e
    omega
def Pt.keysTo (p : Pt) (l : List Rg) : Pt := ⟨p.name, p.code, p.data, p.ka, p.kl, p.kc, p.sa, p.sl, p.sc, l, p.ss⟩
def Pt.symsTo (p : Pt) (l : List (ByteArray × Int)) : Pt := ⟨p.name, p.code, p.data, p.ka, p.kl, p.kc, p.sa, p.sl, p.sc, p.ks, l⟩
/-- What lies there when the switch is over. -/
structure RuEnd (w V : World) (B D : Nat) (J : Im) : Prop where
  low : Below w.heap.size w V
  box : V.heap[B]? = some (.cells J.cells 28)
  wnt : V.heap[D]? = some (.cells wantC 3)
  ps : ∃ b off, PartsAt V b off J.pa J.ps
def ruIm (w : World) (g pc : Nat) (ps : List Pt) : Im := ⟨some ⟨w.heap.size + 1, 0, none⟩, 200, 200, ⟨0, 40, false, false⟩, ⟨40, 200, false, false⟩, some ⟨g, 0, none⟩, pc, ps⟩
theorem RuSt.endP {w V : World} {B D g pc : Nat} {kb sb : Nat → Nat} (h : RuSt w V B D g pc kb sb) {c : Nat} (p' : Pt) (x : Value) (hc : c < 11) (hp : p'.cells.toList = (sndP 1 (kb 1) (sb 1)).cells.toList.set c x)
    (hs : p'.ss = (sndP 1 (kb 1) (sb 1)).ss ∧ p'.sl = 2 ∧ p'.sa = some ⟨sb 1, 0, none⟩) (hk : KeyB V p' (kb 1)) : RuEnd w (V.setCell ⟨g, 1 * 11 + c, none⟩ x) B D (ruIm w g pc [sndP 0 (kb 0) (sb 0), p', sndP 2 (kb 2) (sb 2)]) := by
  have hn := h.ps.ne
  have h2 := h.ps.putP (q := 1) (p' := p') (kb' := kb) rfl hc hp hs hk (fun _ _ => rfl) ⟨(hn 1 1 (show 1 < 3 by decide) (show 1 < 3 by decide)).1, fun j hj => ⟨(hn 1 j (show 1 < 3 by decide) hj).2.2.1, fun e => ((hn 1 j (show 1 < 3 by decide) hj).2.2.2 (fun e' => e e'.symm)).1⟩⟩
  refine ⟨h.low.setCell h.gw.1 _, ?_, ?_, _, _, h2.parts⟩
  · rw [Below.heap_setCell _ _ _ _ (show B ≠ g from fun e => h.gB.1 e.symm)]
    exact h.box
  · rw [Below.heap_setCell _ _ _ _ (show D ≠ g from fun e => h.gB.2.1 e.symm)]
    exact h.wnt
theorem RuSt.endB {w V : World} {B D g pc : Nat} {kb sb : Nat → Nat} (h : RuSt w V B D g pc kb sb) {c : Nat} (J : Im) (x : Value) (hc : (sndI w.heap.size (.slice (some ⟨g, 0, none⟩) 3 pc)).setIfInBounds c x = J.cells) (hp : J.ps = [] ∨ J.pa = some ⟨g, 0, none⟩ ∧ J.ps = [sndP 0 (kb 0) (sb 0), sndP 1 (kb 1) (sb 1), sndP 2 (kb 2) (sb 2)]) : RuEnd w (V.setCell ⟨B, c, none⟩ x) B D J := by
  refine ⟨h.low.setCell h.at' _, by rw [← hc]; exact heap_setCell_at x h.box, ?_, ?_⟩
  · rw [Below.heap_setCell _ _ _ _ (h.db)]
    exact h.wnt
  · rcases hp with e | ⟨e1, e2⟩
    · refine ⟨0, 0, ?_⟩
      rw [e]
      exact ⟨fun h => absurd h (Nat.lt_irrefl _), fun i p hi => (by cases hi), fun p hp => (by cases hp)⟩
    · rw [e1, e2]
      refine ⟨_, _, ImB.parts (kb := kb) (sb := sb) (V := V.setCell ⟨B, c, none⟩ x) ?_⟩
      obtain ⟨⟨G, hG, hr⟩, hk, hs, hn⟩ := h.ps
      have keep : ∀ q, q ≠ B → (V.setCell ⟨B, c, none⟩ x).heap[q]? = V.heap[q]? := fun q hq => Below.heap_setCell _ _ _ _ hq
      have l3 : ∀ (i : Nat) (p : Pt), [sndP 0 (kb 0) (sb 0), sndP 1 (kb 1) (sb 1), sndP 2 (kb 2) (sb 2)][i]? = some p → i < 3 := fun i p hi => (List.getElem?_eq_some_iff.1 hi).1
      exact ⟨⟨G, by rw [keep g h.gB.1]; exact hG, hr⟩, fun i p hi => (hk i p hi).keep (keep _ (h.gB.2.2 i (l3 i p hi)).1), fun i p hi => (hs i p hi).keep (keep _ (h.gB.2.2 i (l3 i p hi)).2.2.1), hn⟩
theorem RuSt.endK {w V : World} {B D g pc : Nat} {kb sb : Nat → Nat} (h : RuSt w V B D g pc kb sb) {c : Nat} (r' : Rg) (x : Value) (hc : c < 4) (hr' : kcell r' = (kcell ⟨56, 72, false, false⟩).set c x) :
    RuEnd w (V.setCell ⟨kb 1, 0 * 4 + c, none⟩ x) B D (ruIm w g pc [sndP 0 (kb 0) (sb 0), (sndP 1 (kb 1) (sb 1)).keysTo [r'], sndP 2 (kb 2) (sb 2)]) := by
  have h2 := h.ps.putK (q := 1) (m := 0) (r := ⟨56, 72, false, false⟩) rfl rfl hc hr'
  refine ⟨h.low.setCell (h.gw.2 1 (by decide)).1 _, ?_, ?_, _, _, h2.parts⟩
  · rw [Below.heap_setCell _ _ _ _ (show B ≠ kb 1 from fun e => (h.gB.2.2 1 (by decide)).1 e.symm)]
    exact h.box
  · rw [Below.heap_setCell _ _ _ _ (show D ≠ kb 1 from fun e => (h.gB.2.2 1 (by decide)).2.1 e.symm)]
    exact h.wnt
theorem RuSt.endS {w V : World} {B D g pc : Nat} {kb sb : Nat → Nat} (h : RuSt w V B D g pc kb sb) {c m : Nat} (s s' : ByteArray × Int) (x : Value) (hm : (sndP 1 (kb 1) (sb 1)).ss[m]? = some s) (hc : c < 2) (hr' : scell s' = (scell s).set c x) :
    RuEnd w (V.setCell ⟨sb 1, m * 2 + c, none⟩ x) B D (ruIm w g pc [sndP 0 (kb 0) (sb 0), (sndP 1 (kb 1) (sb 1)).symsTo ((sndP 1 (kb 1) (sb 1)).ss.set m s'), sndP 2 (kb 2) (sb 2)]) := by
  have h2 := h.ps.putS (q := 1) (m := m) rfl hm hc hr'
  refine ⟨h.low.setCell (h.gw.2 1 (by decide)).2 _, ?_, ?_, _, _, h2.parts⟩
  · rw [Below.heap_setCell _ _ _ _ (show B ≠ sb 1 from fun e => (h.gB.2.2 1 (by decide)).2.2.1 e.symm)]
    exact h.box
  · rw [Below.heap_setCell _ _ _ _ (show D ≠ sb 1 from fun e => (h.gB.2.2 1 (by decide)).2.2.2 e.symm)]
    exact h.wnt
end Go.Proofs.Ytfjppgfnjjmkpaa
