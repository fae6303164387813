/-
  ImageTurned: images that Sound made, a number turned.
-/
import Derived.Test.YtfjppgfnjjmkpaaImz
namespace Go.Proofs.Ytfjppgfnjjmkpaa
open Go.RowKit Go.Sort

def tIm (s wl : Nat) (kern keys : Rg) (g pc : Nat) (ps : List Pt) : Im := ⟨some ⟨s + 1, 0, none⟩, wl, 200, kern, keys, some ⟨g, 0, none⟩, pc, ps⟩
def tK : Rg := ⟨0, 40, false, false⟩
def tS : Rg := ⟨40, 200, false, false⟩
theorem tIm_set (s wl : Nat) (kern keys : Rg) (g pc q : Nat) (ps : List Pt) (p : Pt) : (tIm s wl kern keys g pc (ps.set q p)).cells = (tIm s wl kern keys g pc ps).cells := by
  unfold tIm Im.cells
  simp only [List.length_set]
structure TuSt (w V : World) (B g pc N : Nat) (ps : List Pt) (kb sb : Nat → Nat) : Prop where
  m : RuM w V (fun _ _ => False) B g (tIm w.heap.size 200 tK tS g pc ps) kb sb
  len : ps.length = N
  pts : ∀ (j : Nat) p, ps[j]? = some p → p = sndP j (kb j) (sb j) ∧ V.heap[kb j]? = some (.cells (sndKs j) 25)
  n8 : 1 ≤ N ∧ N ≤ 8
theorem TuSt.below {w V V' : World} {B g pc N : Nat} {ps : List Pt} {kb sb : Nat → Nat} (h : TuSt w V B g pc N ps kb sb) (hb : Below V.heap.size V V') : TuSt w V' B g pc N ps kb sb :=
  ⟨h.m.below hb, h.len, fun j p hj => ⟨(h.pts j p hj).1, kept_on (h.pts j p hj).2 hb⟩, h.n8⟩
theorem tu_begin {w V V1 : World} {g pc N : Nat} {kb sb : Nat → Nat} {ps : List Pt} (h8 : 1 ≤ N ∧ N ≤ 8) (hf : SndFin w V (.slice (some ⟨g, 0, none⟩) N pc) ps N) (hi : ImB V g ps kb sb) (hj : ∀ (j : Nat) p, ps[j]? = some p → p = sndP j (kb j) (sb j) ∧ w.heap.size + 4 ≤ kb j ∧ w.heap.size + 4 ≤ sb j) (hg : w.heap.size + 4 ≤ g)
    (h1 : V1.heap[V.heap.size]? = some (.cells (sndI w.heap.size (.slice (some ⟨g, 0, none⟩) N pc)) 28)) (A1 : Below V.heap.size V V1) : TuSt w V1 V.heap.size g pc N ps kb sb := by
  have L1 := hi.lt
  have hsz := hf.low.size
  refine ⟨⟨below_step hf.low A1, hsz, ?_, hi.below A1, rfl, ⟨by omega, fun j hj' => ?_⟩, ⟨by omega, fun j hj' => ?_⟩, fun _ _ h => h.elim⟩, hf.len, fun j p e => ?_, h8⟩
  · have e : (tIm w.heap.size 200 tK tS g pc ps).cells = sndI w.heap.size (.slice (some ⟨g, 0, none⟩) N pc) := sndIm_cells (s := w.heap.size) (pa := some ⟨g, 0, none⟩) (pc := pc) hf.len
    rw [e]
    exact h1
  · have := L1.2 j hj'
    omega
  · have := hj j _ (List.getElem?_eq_getElem hj')
    omega
  · have e1 := (hj j p e).1
    refine ⟨e1, kept_on (hf.keyblk (sb := sb j) ?_) A1⟩
    rw [e, e1]
theorem TuSt.at {w V : World} {B g pc N : Nat} {ps : List Pt} {kb sb : Nat → Nat} (h : TuSt w V B g pc N ps kb sb) {Q : Nat} (hQ : Q < N) : ps[Q]? = some (sndP Q (kb Q) (sb Q)) := by
  obtain ⟨p, e⟩ : ∃ p, ps[Q]? = some p := ⟨_, List.getElem?_eq_getElem (by rw [h.len]; exact hQ)⟩
  rw [e, (h.pts Q p e).1]
theorem TuSt.ok {w V : World} {B g pc N : Nat} {ps : List Pt} {kb sb : Nat → Nat} (h : TuSt w V B g pc N ps kb sb) : ∀ p ∈ ps, PtOk p := fun p hp => by
  obtain ⟨j, e⟩ := List.mem_iff_getElem?.1 hp
  have hl := (List.getElem?_eq_some_iff.1 e).1
  rw [(h.pts j p e).1]
  exact sndP_ok j _ _ (by have := h.len; have := h.n8; omega)
/-- What is there when the switch is over. -/
structure TuEnd (w V : World) (B : Nat) (J : Im) : Prop where
  low : Below w.heap.size w V
  box : V.heap[B]? = some (.cells J.cells 28)
  ps : ∃ b off, PartsAt V b off J.pa J.ps
  ok : ImOk J
  few : J.ps.length ≤ 100
theorem RuM.tu {w V : World} {ex : Nat → Obj → Prop} {B g : Nat} {J : Im} {kb sb : Nat → Nat} (h : RuM w V ex B g J kb sb) (ok : ImOk J) (few : J.ps.length ≤ 100) : TuEnd w V B J :=
  ⟨h.low, h.box, ⟨g, 0, by rw [h.pa]; exact h.ps.parts⟩, ok, few⟩
theorem nat_u32 {x : Nat} (h : x ≤ 100000) : U32 (x : Int) := ⟨by omega, by omega⟩
theorem t_ok {s wl g pc : Nat} {kern keys : Rg} {ps : List Pt} (hw : wl ≤ 200) (hk : RgU kern) (hs : RgU keys) (hl : ps.length ≤ 100) (hp : ∀ p ∈ ps, PtOk p) : ImOk (tIm s wl kern keys g pc ps) :=
  ⟨by show wl ≤ maxLen; unfold maxLen; omega, hk, hs, by show ps.length ≤ 1000; omega, hp⟩
theorem tK_ok : RgU tK := ⟨⟨by decide, by decide⟩, ⟨by decide, by decide⟩⟩
theorem tS_ok : RgU tS := ⟨⟨by decide, by decide⟩, ⟨by decide, by decide⟩⟩
theorem set_ok {ps : List Pt} {q : Nat} {p : Pt} (h : ∀ p ∈ ps, PtOk p) (hp : PtOk p) : ∀ x ∈ ps.set q p, PtOk x := fun x hx => by
  rcases List.mem_or_eq_of_mem_set hx with h1 | h1
  · exact h x h1
  · rw [h1]; exact hp
/-- A cell of a part turned; the image behind it. -/
theorem TuSt.putP {w V : World} {B g pc N : Nat} {ps : List Pt} {kb sb : Nat → Nat} (h : TuSt w V B g pc N ps kb sb) {Q c : Nat} (hQ : Q < N) (p' : Pt) (x : Value) (hc : c < 11) (hp : p'.cells.toList = (sndP Q (kb Q) (sb Q)).cells.toList.set c x)
    (hs : p'.ss = (sndP Q (kb Q) (sb Q)).ss ∧ p'.sl = 2 ∧ p'.sa = some ⟨sb Q, 0, none⟩) (hk : p'.ks = (sndP Q (kb Q) (sb Q)).ks ∧ p'.kl = 1 ∧ p'.ka = some ⟨kb Q, 0, none⟩) (hok : PtOk p') :
    TuEnd w (V.setCell ⟨g, Q * 11 + c, none⟩ x) B (tIm w.heap.size 200 tK tS g pc (ps.set Q p')) := by
  have hkb : KeyB V p' (kb Q) := by
    obtain ⟨_, _, K, k1, k2⟩ := h.m.ps.key Q _ (h.at hQ)
    exact ⟨by rw [hk.2.1, hk.1]; rfl, fun _ => hk.2.2, K, k1, by rw [hk.1]; exact k2⟩
  have hl : (ps.set Q p').length ≤ 100 := by rw [List.length_set, h.len]; have := h.n8; omega
  exact (h.m.setP (q := Q) p' (tIm w.heap.size 200 tK tS g pc (ps.set Q p')) x (h.at hQ) hc hp hs hkb (tIm_set ..) rfl rfl).tu (t_ok (by omega) tK_ok tS_ok hl (set_ok h.ok hok)) hl
theorem TuSt.putB {w V : World} {B g pc N : Nat} {ps : List Pt} {kb sb : Nat → Nat} (h : TuSt w V B g pc N ps kb sb) {c : Nat} (wl : Nat) (kern keys : Rg) (x : Value) (hc : (tIm w.heap.size 200 tK tS g pc ps).cells.setIfInBounds c x = (tIm w.heap.size wl kern keys g pc ps).cells) (hw : wl ≤ 200) (hk : RgU kern) (hs : RgU keys) :
    TuEnd w (V.setCell ⟨B, c, none⟩ x) B (tIm w.heap.size wl kern keys g pc ps) := by
  have hl : ps.length ≤ 100 := by rw [h.len]; have := h.n8; omega
  exact (h.m.setB (tIm w.heap.size wl kern keys g pc ps) x hc rfl rfl).tu (t_ok hw hk hs hl h.ok) hl
theorem TuSt.putK {w V : World} {B g pc N : Nat} {ps : List Pt} {kb sb : Nat → Nat} (h : TuSt w V B g pc N ps kb sb) {Q c : Nat} (hQ : Q < N) (r' : Rg) (x : Value) (hc : c < 4) (hr : kcell r' = (kcell ⟨40 + 16 * (Q : Int), 56 + 16 * (Q : Int), false, false⟩).set c x) (hok : RgU r') :
    TuEnd w (V.setCell ⟨kb Q, 0 * 4 + c, none⟩ x) B (tIm w.heap.size 200 tK tS g pc (ps.set Q ((sndP Q (kb Q) (sb Q)).keysTo [r']))) := by
  have hl : (ps.set Q ((sndP Q (kb Q) (sb Q)).keysTo [r'])).length ≤ 100 := by rw [List.length_set, h.len]; have := h.n8; omega
  have h0 := sndP_ok Q (kb Q) (sb Q) (by have := h.n8; omega)
  have hok' : PtOk ((sndP Q (kb Q) (sb Q)).keysTo [r']) := ⟨h0.nm, h0.code, h0.data, fun r hr => by
    have : r = r' := by simpa [Pt.keysTo] using hr
    rw [this]; exact hok, h0.ss, by show 1 ≤ 1000; omega, h0.sl⟩
  exact (h.m.setK (q := Q) (m := 0) r' (tIm w.heap.size 200 tK tS g pc (ps.set Q ((sndP Q (kb Q) (sb Q)).keysTo [r']))) x (h.at hQ) rfl hc hr (tIm_set ..) rfl rfl).tu (t_ok (by omega) tK_ok tS_ok hl (set_ok h.ok hok')) hl
theorem TuSt.putS {w V : World} {B g pc N : Nat} {ps : List Pt} {kb sb : Nat → Nat} (h : TuSt w V B g pc N ps kb sb) {Q c : Nat} (hQ : Q < N) (s' : ByteArray × Int) (x : Value) (hc : c < 2) (hr : scell s' = (scell (⟨#[121]⟩, 256 + 60 * (Q : Int))).set c x) (hok : Nm s'.1 ∧ U32 s'.2) :
    TuEnd w (V.setCell ⟨sb Q, 1 * 2 + c, none⟩ x) B (tIm w.heap.size 200 tK tS g pc (ps.set Q ((sndP Q (kb Q) (sb Q)).symsTo [(⟨#[120]⟩, 220 + 60 * (Q : Int)), s']))) := by
  have hl : (ps.set Q ((sndP Q (kb Q) (sb Q)).symsTo [(⟨#[120]⟩, 220 + 60 * (Q : Int)), s'])).length ≤ 100 := by rw [List.length_set, h.len]; have := h.n8; omega
  have h0 := sndP_ok Q (kb Q) (sb Q) (by have := h.n8; omega)
  have hok' : PtOk ((sndP Q (kb Q) (sb Q)).symsTo [(⟨#[120]⟩, 220 + 60 * (Q : Int)), s']) := ⟨h0.nm, h0.code, h0.data, h0.ks, fun r hr => by
    have : r = (⟨#[120]⟩, 220 + 60 * (Q : Int)) ∨ r = s' := by simpa [Pt.symsTo] using hr
    rcases this with e | e
    · rw [e]; exact h0.ss _ (List.mem_cons_self ..)
    · rw [e]; exact hok, h0.kl, by show 2 ≤ 1000; omega⟩
  exact (h.m.setS (q := Q) (m := 1) s' (tIm w.heap.size 200 tK tS g pc (ps.set Q ((sndP Q (kb Q) (sb Q)).symsTo [(⟨#[120]⟩, 220 + 60 * (Q : Int)), s']))) x (h.at hQ) rfl hc hr (tIm_set ..) rfl rfl).tu (t_ok (by omega) tK_ok tS_ok hl (set_ok h.ok hok')) hl
theorem set_same {ps : List Pt} {q : Nat} {p : Pt} (h : ps[q]? = some p) : ps.set q p = ps := by
  apply List.ext_getElem?
  intro i
  rw [List.getElem?_set]
  split
  · rename_i e
    subst e
    rw [h, if_pos (List.getElem?_eq_some_iff.1 h).1]
  · rfl
theorem RuM.again {w V : World} {ex : Nat → Obj → Prop} {B g s pc Q c : Nat} {ps : List Pt} {kb sb : Nat → Nat} {p : Pt} (h : RuM w V ex B g (tIm s 200 tK tS g pc (ps.set Q p)) kb sb) (hQ : Q < ps.length) (p' : Pt) (x : Value) (hc : c < 11) (hp : p'.cells.toList = p.cells.toList.set c x)
    (hs : p'.ss = p.ss ∧ p'.sl = p.sl ∧ p'.sa = p.sa) (hk : p'.ks = p.ks ∧ p'.kl = p.kl ∧ p'.ka = p.ka) : RuM w (V.setCell ⟨g, Q * 11 + c, none⟩ x) ex B g (tIm s 200 tK tS g pc (ps.set Q p')) kb sb := by
  have hq : (tIm s 200 tK tS g pc (ps.set Q p)).ps[Q]? = some p := by
    show (ps.set Q p)[Q]? = some p
    rw [List.getElem?_set_self hQ]
  obtain ⟨a1, a2, K, a3, a4⟩ := h.ps.key Q p hq
  refine h.setP (q := Q) p' _ x hq hc hp hs ⟨by rw [hk.2.1, hk.1]; exact a1, by rw [hk.1, hk.2.2]; exact a2, K, a3, by rw [hk.1]; exact a4⟩ ?_ ?_ rfl
  · unfold tIm Im.cells
    simp only [List.length_set]
  · show ps.set Q p' = (ps.set Q p).set Q p'
    rw [List.set_set]
def tN : Nat → ByteArray
  | 0 => ⟨#[]⟩
  | 1 => ⟨#[97]⟩
  | 2 => ⟨#[122]⟩
  | _ => ⟨#[98]⟩
theorem tN_ok (X : Nat) : Nm (tN X) := by
  unfold Nm tN
  split <;> decide
def tNs : Array Value := #[.string ⟨#[]⟩, .string ⟨#[97]⟩, .string ⟨#[122]⟩, .string ⟨#[98]⟩]
theorem tNs_at {X : Nat} (h : X < 4) : tNs[X]? = some (.string (tN X)) := by
  have : X = 0 ∨ X = 1 ∨ X = 2 ∨ X = 3 := by omega
  rcases this with rfl | rfl | rfl | rfl <;> rfl
def tM : Nat → ByteArray
  | 0 => ⟨#[]⟩
  | 1 => ⟨#[120]⟩
  | _ => ⟨#[122]⟩
theorem tM_ok (X : Nat) : Nm (tM X) := by
  unfold Nm tM
  split <;> decide
def tMs : Array Value := #[.string ⟨#[]⟩, .string ⟨#[120]⟩, .string ⟨#[122]⟩]
theorem tMs_at {X : Nat} (h : X < 3) : tMs[X]? = some (.string (tM X)) := by
  have : X = 0 ∨ X = 1 ∨ X = 2 := by omega
  rcases this with rfl | rfl | rfl <;> rfl
/-- The keys of a part, one more appended. -/
theorem TuSt.more {w W V3 W4 : World} {B g pc N : Nat} {ps : List Pt} {kb sb : Nat → Nat} (h : TuSt w W B g pc N ps kb sb) {Q : Nat} (hQ : Q < N) {r : Rg} {v' : Value} (hr : RgU r) (hV : Below W.heap.size W V3) (ho : W4.ownsRow w.heap.size 25 4 v' (1 + 1) (regrow [⟨40 + 16 * (Q : Int), 56 + 16 * (Q : Int), false, false⟩] ++ rgC r))
    (hg : V3.grownBy W4 (some (kb Q))) (hb : v'.ownBlock = some (kb Q) ∨ v'.ownBlock = some V3.heap.size) :
    ∃ J, TuEnd w (W4.setCell ⟨g, Q * 11 + 9, none⟩ v') B J ∧ W4.cell? ⟨g, Q * 11 + 9, none⟩ = some (.slice (some ⟨kb Q, 0, none⟩) 1 1) ∧ W4.frozen? ⟨g, Q * 11 + 9, none⟩ = false ∧ ∃ nb cap, v' = .slice (some ⟨nb, 0, none⟩) 2 cap := by
  have e : regrow [⟨40 + 16 * (Q : Int), 56 + 16 * (Q : Int), false, false⟩] ++ rgC r = regrow [⟨40 + 16 * (Q : Int), 56 + 16 * (Q : Int), false, false⟩, r] := by
    simp [regrow]
  rw [e] at ho
  have hat := h.at hQ
  have hl8 := h.n8
  obtain ⟨nb, cap, rfl, hJ⟩ := h.m.grow (q := Q) (v := .slice (some ⟨kb Q, 0, none⟩) 1 1) hat rfl hV hg ho rfl (by omega) hb
  have hl : (ps.set Q ((sndP Q (kb Q) (sb Q)).keysV (some ⟨nb, 0, none⟩) 2 cap [⟨40 + 16 * (Q : Int), 56 + 16 * (Q : Int), false, false⟩, r])).length ≤ 100 := by rw [List.length_set, h.len]; omega
  have h0 := sndP_ok Q (kb Q) (sb Q) (by omega)
  have hok : PtOk ((sndP Q (kb Q) (sb Q)).keysV (some ⟨nb, 0, none⟩) 2 cap [⟨40 + 16 * (Q : Int), 56 + 16 * (Q : Int), false, false⟩, r]) := ⟨h0.nm, h0.code, h0.data, fun x hx => by
    have : x = ⟨40 + 16 * (Q : Int), 56 + 16 * (Q : Int), false, false⟩ ∨ x = r := by simpa [Pt.keysV] using hx
    rcases this with e | e
    · rw [e]; exact h0.ks _ (List.mem_cons_self ..)
    · rw [e]; exact hr, h0.ss, by show 2 ≤ 1000; omega, h0.sl⟩
  obtain ⟨r1, _⟩ := hJ (tIm w.heap.size 200 tK tS g pc (ps.set Q ((sndP Q (kb Q) (sb Q)).keysV (some ⟨nb, 0, none⟩) 2 cap [⟨40 + 16 * (Q : Int), 56 + 16 * (Q : Int), false, false⟩, r]))) (tIm_set ..) rfl rfl
  obtain ⟨⟨G, hG, hrr⟩, _, _, hne⟩ := h.m.ps
  have hG3 := kept_on hG hV
  have hQl : Q < ps.length := by rw [h.len]; exact hQ
  have hG4 : W4.heap[g]? = some (.cells G 40) := by
    rw [hg.block g (Array.getElem?_eq_some_iff.1 hG3).1 (fun e => (hne Q Q hQl hQl).1 (Option.some.inj e.symm))]
    exact hG3
  exact ⟨_, r1.tu (t_ok (by omega) tK_ok tS_ok hl (set_ok h.ok hok)) hl, (cells_of hG4).1 _ _ (hrr Q _ hat 9 _ rfl), (cells_of hG4).2.1 _, nb, cap, rfl⟩
theorem wrap_i64 {n : Int} (h : 0 ≤ n ∧ n ≤ 255) : IntKind.i64.wrap n = n := by
  have e : n % (2 ^ 64 : Int) = n := Int.emod_eq_of_lt h.1 (by omega)
  simp only [IntKind.wrap, IntKind.signed, IntKind.bits, e, Bool.true_and, decide_eq_true_eq]
  rw [if_neg (by omega)]
theorem tcheckIn {V : World} {J : Im} {b off : Nat} (hp : PartsAt V b off J.pa J.ps) (ho : ImOk J) (hl : J.ps.length ≤ 100) (d : Nat) (os : Array Obj) :
    Calls Try.prog 11 #[.agg J.cells] (grow (redrawn V d) os) fun e w'' => e = .returned (.int .i64 (checkV J)) ∧ ∃ p : Regrown, w'' = grow (redrawn V p.d) p.os :=
  Calls.regrown_of (iCheck (hp.below (below_regrown V d os)) ho hl)
end Go.Proofs.Ytfjppgfnjjmkpaa
