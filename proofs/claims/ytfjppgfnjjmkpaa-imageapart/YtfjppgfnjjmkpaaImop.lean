/-
  An image as an argument: what it is made of, read.
-/
import Derived.Test.YtfjppgfnjjmkpaaImv
import Derived.ProofKit
import Derived.OpenShut
import Derived.ShutString
import Derived.ChangeArms
import Derived.ChangeSame
import Derived.Deep.Slices
namespace Go.Proofs.Ytfjppgfnjjmkpaa
open Go.ChangeShapes Go.WideShapes Go.ChangeAt Go.RowKit Go.Deep

theorem field_of {fs : Array Field} {i : Nat} {t o : Nat} (h : (fs[i]?).map (fun f => (f.type, f.offset)) = some (t, o)) : ∃ f, fs[i]? = some f ∧ f.type = t ∧ f.offset = o := by
  cases hf : fs[i]? with
  | none => rw [hf] at h; cases h
  | some f =>
    rw [hf] at h
    simp only [Option.map_some, Option.some.injEq, Prod.mk.injEq] at h
    exact ⟨f, rfl, h.1, h.2⟩
theorem list2' {α : Type} {l : List α} (h : l.length = 2) : ∃ a b, l = [a, b] := by
  match l, h with
  | [a, b], _ => exact ⟨a, b, rfl⟩
theorem list4' {α : Type} {l : List α} (h : l.length = 4) : ∃ a b c d, l = [a, b, c, d] := by
  match l, h with
  | [a, b, c, d], _ => exact ⟨a, b, c, d, rfl⟩
theorem list5' {α : Type} {l : List α} (h : l.length = 5) : ∃ a b c d e, l = [a, b, c, d, e] := by
  match l, h with
  | [a, b, c, d, e], _ => exact ⟨a, b, c, d, e, rfl⟩
theorem list10' {α : Type} {l : List α} (h : l.length = 10) : ∃ a b c d e f g i j k, l = [a, b, c, d, e, f, g, i, j, k] := by
  match l, h with
  | [a, b, c, d, e, f, g, i, j, k], _ => exact ⟨a, b, c, d, e, f, g, i, j, k, rfl⟩
theorem list11' {α : Type} {l : List α} (h : l.length = 11) : ∃ a b c d e f g i j k m, l = [a, b, c, d, e, f, g, i, j, k, m] := by
  match l, h with
  | [a, b, c, d, e, f, g, i, j, k, m], _ => exact ⟨a, b, c, d, e, f, g, i, j, k, m, rfl⟩
def fsIn : Option TypeDesc → Array Field
  | some (.struct fs) => fs
  | _ => #[]
theorem undOf {t : TypeId} (h : ∃ fs, Try.prog.underlying t = some (.struct fs)) : Try.prog.underlying t = some (.struct (fsIn (Try.prog.underlying t))) := by
  obtain ⟨fs, h⟩ := h
  rw [h]
  rfl
theorem o_u32 : Try.prog.underlying 23 = some (.int .u32) := by kernel_rfl
theorem o_bool : Try.prog.underlying 4 = some .bool := by kernel_rfl
theorem o_str : Try.prog.underlying 9 = some .string := by kernel_rfl
theorem o_cu : Try.prog.cellsOf 23 = 1 := by kernel_rfl
theorem o_cb : Try.prog.cellsOf 4 = 1 := by kernel_rfl
theorem o_cs : Try.prog.cellsOf 9 = 1 := by kernel_rfl
theorem o_cR : Try.prog.cellsOf 25 = 4 := by kernel_rfl
theorem o_cS : Try.prog.cellsOf 49 = 2 := by kernel_rfl
theorem o_cP : Try.prog.cellsOf 40 = 11 := by kernel_rfl
theorem o_cI : Try.prog.cellsOf 28 = 10 := by kernel_rfl
theorem o_cw : Try.prog.cellsOf 22 = 1 := by kernel_rfl
theorem o_cr : Try.prog.cellsOf 37 = 1 := by kernel_rfl
theorem o_cy : Try.prog.cellsOf 38 = 1 := by kernel_rfl
theorem o_cp : Try.prog.cellsOf 26 = 1 := by kernel_rfl
theorem o_zR : (fsIn (Try.prog.underlying 25)).size = 4 := by kernel_rfl
theorem o_zS : (fsIn (Try.prog.underlying 49)).size = 2 := by kernel_rfl
theorem o_zP : (fsIn (Try.prog.underlying 40)).size = 5 := by kernel_rfl
theorem o_zI : (fsIn (Try.prog.underlying 28)).size = 4 := by kernel_rfl
theorem o_R0 : ((fsIn (Try.prog.underlying 25))[0]?).map (fun f => (f.type, f.offset)) = some (23, 0) := by kernel_rfl
theorem o_R1 : ((fsIn (Try.prog.underlying 25))[1]?).map (fun f => (f.type, f.offset)) = some (23, 1) := by kernel_rfl
theorem o_R2 : ((fsIn (Try.prog.underlying 25))[2]?).map (fun f => (f.type, f.offset)) = some (4, 2) := by kernel_rfl
theorem o_R3 : ((fsIn (Try.prog.underlying 25))[3]?).map (fun f => (f.type, f.offset)) = some (4, 3) := by kernel_rfl
theorem o_S0 : ((fsIn (Try.prog.underlying 49))[0]?).map (fun f => (f.type, f.offset)) = some (9, 0) := by kernel_rfl
theorem o_S1 : ((fsIn (Try.prog.underlying 49))[1]?).map (fun f => (f.type, f.offset)) = some (23, 1) := by kernel_rfl
theorem o_P0 : ((fsIn (Try.prog.underlying 40))[0]?).map (fun f => (f.type, f.offset)) = some (9, 0) := by kernel_rfl
theorem o_P1 : ((fsIn (Try.prog.underlying 40))[1]?).map (fun f => (f.type, f.offset)) = some (25, 1) := by kernel_rfl
theorem o_P2 : ((fsIn (Try.prog.underlying 40))[2]?).map (fun f => (f.type, f.offset)) = some (25, 5) := by kernel_rfl
theorem o_P3 : ((fsIn (Try.prog.underlying 40))[3]?).map (fun f => (f.type, f.offset)) = some (37, 9) := by kernel_rfl
theorem o_P4 : ((fsIn (Try.prog.underlying 40))[4]?).map (fun f => (f.type, f.offset)) = some (38, 10) := by kernel_rfl
theorem o_I0 : ((fsIn (Try.prog.underlying 28))[0]?).map (fun f => (f.type, f.offset)) = some (22, 0) := by kernel_rfl
theorem o_I1 : ((fsIn (Try.prog.underlying 28))[1]?).map (fun f => (f.type, f.offset)) = some (25, 1) := by kernel_rfl
theorem o_I2 : ((fsIn (Try.prog.underlying 28))[2]?).map (fun f => (f.type, f.offset)) = some (25, 5) := by kernel_rfl
theorem o_I3 : ((fsIn (Try.prog.underlying 28))[3]?).map (fun f => (f.type, f.offset)) = some (26, 9) := by kernel_rfl

section
variable {H : Type} {enc : TypeId × Value → H} {w : World} {base : Nat} {spare : Nat → Bool} {held : Bool}

theorem op_rg {fuel : Nat} {cs : List Value} {x : DataW H × List MemPlace} (h : DataW.trod enc Try.prog w base spare held fuel 25 cs = some x) (hsz : cs.length = 4) : ∃ r : Rg, cs = rgC r ∧ RgU r := by
  obtain ⟨xs, n, _, hx, _, hlen, hall⟩ := DataW.trod_struct (undOf undRg) h
  rw [o_zR] at hlen
  obtain ⟨c0, c1, c2, c3, rfl⟩ := list4' hsz
  obtain ⟨x0, x1, x2, x3, rfl⟩ := list4' hlen
  obtain ⟨f0, g0, t0, o0⟩ := field_of o_R0
  obtain ⟨f1, g1, t1, o1⟩ := field_of o_R1
  obtain ⟨f2, g2, t2, o2⟩ := field_of o_R2
  obtain ⟨f3, g3, t3, o3⟩ := field_of o_R3
  have e0 := hall 0 f0 g0
  have e1 := hall 1 f1 g1
  have e2 := hall 2 f2 g2
  have e3 := hall 3 f3 g3
  rw [t0, o0, o_cu] at e0
  rw [t1, o1, o_cu] at e1
  rw [t2, o2, o_cb] at e2
  rw [t3, o3, o_cb] at e3
  simp at e0 e1 e2 e3
  obtain ⟨a, h0, _, z0⟩ := DataW.trod_int o_u32 e0
  obtain ⟨b, h1, _, z1⟩ := DataW.trod_int o_u32 e1
  obtain ⟨c, h2, _⟩ := DataW.trod_bool o_bool e2
  obtain ⟨d, h3, _⟩ := DataW.trod_bool o_bool e3
  simp only [List.cons.injEq, and_true] at h0 h1 h2 h3
  subst h0 h1 h2 h3
  exact ⟨⟨a, b, c, d⟩, rfl, u32_of (bounds_u32 z0), u32_of (bounds_u32 z1)⟩
theorem op_sym {fuel : Nat} {cs : List Value} {x : DataW H × List MemPlace} (h : DataW.trod enc Try.prog w base spare held fuel 49 cs = some x) (hsz : cs.length = 2) : ∃ s : ByteArray × Int, cs = [.string s.1, .int .u32 s.2] ∧ Nm s.1 ∧ U32 s.2 := by
  obtain ⟨xs, n, _, hx, _, hlen, hall⟩ := DataW.trod_struct (undOf undSy) h
  rw [o_zS] at hlen
  obtain ⟨c0, c1, rfl⟩ := list2' hsz
  obtain ⟨x0, x1, rfl⟩ := list2' hlen
  obtain ⟨f0, g0, t0, o0⟩ := field_of o_S0
  obtain ⟨f1, g1, t1, o1⟩ := field_of o_S1
  have e0 := hall 0 f0 g0
  have e1 := hall 1 f1 g1
  rw [t0, o0, o_cs] at e0
  rw [t1, o1, o_cu] at e1
  simp at e0 e1
  obtain ⟨a, h0, _, z0⟩ := DataW.trod_string o_str e0
  obtain ⟨b, h1, _, z1⟩ := DataW.trod_int o_u32 e1
  simp only [List.cons.injEq, and_true] at h0 h1
  subst h0 h1
  exact ⟨(a, b), rfl, z0, u32_of (bounds_u32 z1)⟩
/-- A slice of structs: its elements as plain data, where they lie. -/
theorem op_slice {α : Type} (dflt : α) {t e : TypeId} {sz : Nat} (row : α → List Value) (good : α → Prop) (hu : Try.prog.underlying t = some (.slice e)) (hc : Try.prog.cellsOf e = sz) (hz : 0 < sz) (hrow : ∀ a, (row a).length = sz)
    (hel : ∀ (fuel : Nat) (cs : List Value) (x : DataW H × List MemPlace), DataW.trod enc Try.prog w base spare held fuel e cs = some x → cs.length = sz → ∃ a, cs = row a ∧ good a)
    {fuel : Nat} {c : Value} {x : DataW H × List MemPlace} (h : DataW.trod enc Try.prog w base spare held fuel t [c] = some x) :
    ∃ (sa : Option Addr) (n cap : Nat) (l : List α) (b off : Nat), c = .slice sa n cap ∧ n ≤ maxLen ∧ l.length = n ∧ (∀ a ∈ l, good a) ∧ (0 < n → sa = some ⟨b, off, none⟩ ∧ b < w.heap.size) ∧ ∀ (i : Nat) a, l[i]? = some a → w.rangeAt b (off + i * sz) (row a) := by
  rcases open_slice hu h with ⟨hcs, _⟩ | ⟨a, len, cap, m, k, D', Pl, hcs, _, hl, hm, hmm, _, hall⟩
  · simp at hcs
    subst hcs
    exact ⟨none, 0, 0, [], 0, 0, rfl, Nat.zero_le _, rfl, fun a ha => (by cases ha), fun h => absurd h (by omega), fun i a ha => (by cases ha)⟩
  · simp at hcs
    subst hcs
    have hle : len ≤ m := by rw [hmm]; split <;> omega
    rw [hc] at hall
    haveI : Inhabited α := ⟨dflt⟩
    obtain ⟨qs, hq⟩ := choose_lt (α := α) (n := len) (p := fun i q => w.cells? base (a.add (i * sz)) sz = some (row q) ∧ good q) (fun i hi => by
      obtain ⟨cs', h1, h2⟩ := hall i (by omega)
      obtain ⟨_, hlen, _⟩ := World.cells?_some h1
      obtain ⟨q, rfl, u1⟩ := hel _ _ _ h2 hlen
      exact ⟨q, h1, u1⟩)
    by_cases hn : len = 0
    · subst hn
      exact ⟨some a, 0, cap, [], 0, 0, rfl, Nat.zero_le _, rfl, fun a ha => (by cases ha), fun h => absurd h (by omega), fun i a ha => (by cases ha)⟩
    · obtain ⟨b, off, spot⟩ := a
      obtain ⟨v0, hv0⟩ : ∃ v0, (row (qs 0))[0]? = some v0 := ⟨_, List.getElem?_eq_getElem (by rw [hrow]; exact hz)⟩
      have hc0 := (World.cells?_some (hq 0 (by omega)).1).2.2 0 hz
      rw [hv0] at hc0
      have hspot : spot = none := by simpa [Addr.add] using World.cell?_spot hc0
      subst hspot
      have hb : b < w.heap.size := by simpa [Addr.add] using World.block_lt_of_cell? _ _ hc0
      refine ⟨_, len, cap, (List.range len).map qs, b, off, rfl, by omega, by simp, fun q hqm => ?_, fun _ => ⟨rfl, hb⟩, fun i q hiq j v hv => ?_⟩
      · obtain ⟨i, hi, rfl⟩ := List.mem_map.1 hqm
        exact (hq i (List.mem_range.1 hi)).2
      · have hil : i < len := by
          have := (List.getElem?_eq_some_iff.1 hiq).1
          simpa using this
        have eq : q = qs i := by
          rw [List.getElem?_map, List.getElem?_range hil] at hiq
          exact (Option.some.inj hiq).symm
        subst eq
        have hj : j < sz := by
          have := (List.getElem?_eq_some_iff.1 hv).1
          rwa [hrow] at this
        have := (World.cells?_some (hq i hil).1).2.2 j hj
        rw [show ((⟨b, off, none⟩ : Addr).add (i * sz)).add j = ⟨b, off + i * sz + j, none⟩ by rw [Addr.add_lit, Addr.add_lit]] at this
        rw [this]
        exact hv
def noPt : Pt := ⟨⟨#[]⟩, ⟨0, 0, false, false⟩, ⟨0, 0, false, false⟩, none, 0, 0, none, 0, 0, [], []⟩
/-- What a part that came in may be. -/
structure PtIn (w : World) (p : Pt) : Prop where
  at' : PtAt w p
  nm : Nm p.name
  code : RgU p.code
  data : RgU p.data
  ks : ∀ r ∈ p.ks, RgU r
  ss : ∀ s ∈ p.ss, Nm s.1 ∧ U32 s.2
  kl : p.kl ≤ maxLen
  sl : p.sl ≤ maxLen
theorem op_part {fuel : Nat} {cs : List Value} {x : DataW H × List MemPlace} (h : DataW.trod enc Try.prog w base spare held fuel 40 cs = some x) (hsz : cs.length = 11) : ∃ p : Pt, cs = p.cells.toList ∧ PtIn w p := by
  obtain ⟨xs, n, _, hx, _, hlen, hall⟩ := DataW.trod_struct (undOf undPt) h
  rw [o_zP] at hlen
  obtain ⟨c0, c1, c2, c3, c4, c5, c6, c7, c8, c9, c10, rfl⟩ := list11' hsz
  obtain ⟨x0, x1, x2, x3, x4, rfl⟩ := list5' hlen
  obtain ⟨f0, g0, t0, o0⟩ := field_of o_P0
  obtain ⟨f1, g1, t1, o1⟩ := field_of o_P1
  obtain ⟨f2, g2, t2, o2⟩ := field_of o_P2
  obtain ⟨f3, g3, t3, o3⟩ := field_of o_P3
  obtain ⟨f4, g4, t4, o4⟩ := field_of o_P4
  have e0 := hall 0 f0 g0
  have e1 := hall 1 f1 g1
  have e2 := hall 2 f2 g2
  have e3 := hall 3 f3 g3
  have e4 := hall 4 f4 g4
  rw [t0, o0, o_cs] at e0
  rw [t1, o1, o_cR] at e1
  rw [t2, o2, o_cR] at e2
  rw [t3, o3, o_cr] at e3
  rw [t4, o4, o_cy] at e4
  simp at e0 e1 e2 e3 e4
  obtain ⟨nm, h0, _, z0⟩ := DataW.trod_string o_str e0
  obtain ⟨r1, h1, z1⟩ := op_rg e1 rfl
  obtain ⟨r2, h2, z2⟩ := op_rg e2 rfl
  obtain ⟨ka, kl, kc, ks, kb, koff, rfl, hkm, hkl, hkg, hka, hkr⟩ := op_slice (α := Rg) (sz := 4) ⟨0, 0, false, false⟩ rgC RgU Try.underlying37 o_cR (by omega) (fun _ => rfl) (fun _ _ _ h hl => op_rg h hl) e3
  obtain ⟨sa, sl, sc, ss, sb, soff, rfl, hsm, hsl, hsg, hsa, hsr⟩ := op_slice (α := ByteArray × Int) (sz := 2) (⟨#[]⟩, 0) (fun s => [.string s.1, .int .u32 s.2]) (fun s => Nm s.1 ∧ U32 s.2) Try.underlying38 o_cS (by omega) (fun _ => rfl) (fun _ _ _ h hl => op_sym h hl) e4
  simp only [List.cons.injEq, and_true] at h0
  unfold rgC at h1 h2
  simp only [List.cons.injEq, and_true] at h1 h2
  obtain ⟨rfl, rfl, rfl, rfl⟩ := h1
  obtain ⟨rfl, rfl, rfl, rfl⟩ := h2
  subst h0
  refine ⟨⟨nm, r1, r2, ka, kl, kc, sa, sl, sc, ks, ss⟩, rfl, ⟨⟨kb, koff, ⟨fun h => (hka (by rw [← hkl]; exact h)).1, fun h => (hka (by rw [← hkl]; exact h)).2, fun i hi f v hv => ?_⟩⟩, ⟨sb, soff, ⟨fun h => hsa (by rw [← hsl]; exact h), fun i s hs => hsr i s hs⟩⟩, hkl.symm, hsl.symm⟩, z0, z1, z2, hkg, hsg, hkm, hsm⟩
  refine hkr i (rgAt ks i) ?_ f v hv
  unfold rgAt
  rw [List.getD_eq_getElem?_getD, List.getElem?_eq_getElem hi]
  rfl
/-- What an image that came in is. -/
structure ImIn (w : World) (i : Im) : Prop where
  ps : ∃ b off, PartsAt w b off i.pa i.ps
  wl : i.wl ≤ maxLen
  kern : RgU i.kern
  keys : RgU i.keys
  few : i.ps.length ≤ maxLen
  all : ∀ p ∈ i.ps, PtIn w p
theorem op_im {r : Reach} {b0 : Nat} {v : Value} {D : DataW H} {p : List MemPlace} (hv : Value.okWide Try.prog w r b0 28 v) (h : DataW.Trod enc Try.prog w base spare held 28 v D p) : ∃ i : Im, v = .agg i.cells ∧ ImIn w i := by
  obtain ⟨cs, rfl, hsz⟩ := okWide_struct (undOf undIm) hv
  obtain ⟨fuel, hf⟩ := h
  obtain ⟨xs, n, _, hx, _, hlen, hall⟩ := DataW.trod_struct (undOf undIm) hf
  rw [o_zI] at hlen
  rw [o_cI] at hsz
  obtain ⟨l⟩ := cs
  obtain ⟨c0, c1, c2, c3, c4, c5, c6, c7, c8, c9, rfl⟩ := list10' (l := l) hsz
  obtain ⟨x0, x1, x2, x3, rfl⟩ := list4' hlen
  obtain ⟨f0, g0, t0, o0⟩ := field_of o_I0
  obtain ⟨f1, g1, t1, o1⟩ := field_of o_I1
  obtain ⟨f2, g2, t2, o2⟩ := field_of o_I2
  obtain ⟨f3, g3, t3, o3⟩ := field_of o_I3
  have e0 := hall 0 f0 g0
  have e1 := hall 1 f1 g1
  have e2 := hall 2 f2 g2
  have e3 := hall 3 f3 g3
  rw [t0, o0, o_cw] at e0
  rw [t1, o1, o_cR] at e1
  rw [t2, o2, o_cR] at e2
  rw [t3, o3, o_cp] at e3
  simp [Value.cells] at e0 e1 e2 e3
  obtain ⟨r1, h1, z1⟩ := op_rg e1 rfl
  obtain ⟨r2, h2, z2⟩ := op_rg e2 rfl
  obtain ⟨wa, wl, wc, hw0, hwm⟩ : ∃ (wa : Option Addr) (wl wc : Nat), c0 = .slice wa wl wc ∧ wl ≤ maxLen := by
    rcases open_slice Try.underlying22 e0 with ⟨hcs, _⟩ | ⟨a, len, cap, m, k, D', Pl, hcs, _, hl, hm, _⟩
    · simp at hcs
      exact ⟨none, 0, 0, hcs, Nat.zero_le _⟩
    · simp at hcs
      exact ⟨some a, len, cap, hcs, by omega⟩
  obtain ⟨pa, pl, pc, ps, pb, poff, rfl, hpm, hpl, hpg, hpa, hpr⟩ := op_slice (α := Pt) (sz := 11) noPt (fun p => p.cells.toList) (PtIn w) Try.underlying26 o_cP (by omega) (fun _ => rfl) (fun _ _ _ h hl => op_part h hl) e3
  unfold rgC at h1 h2
  simp only [List.cons.injEq, and_true] at h1 h2
  obtain ⟨rfl, rfl, rfl, rfl⟩ := h1
  obtain ⟨rfl, rfl, rfl, rfl⟩ := h2
  subst hw0 hpl
  exact ⟨⟨wa, wl, wc, r1, r2, pa, pc, ps⟩, rfl, ⟨⟨pb, poff, ⟨hpa, hpr, fun p hp => (hpg p hp).at'⟩⟩, hwm, z1, z2, hpm, hpg⟩⟩
end
end Go.Proofs.Ytfjppgfnjjmkpaa
