/-
  Regions as an argument: what they are made of, read.
-/
import Derived.Test.YtioppnlojlecaaaGdm
import Derived.ProofKit
import Derived.OpenShut
import Derived.ShutString
import Derived.ChangeArms
import Derived.ChangeSame
import Derived.Deep.Slices
namespace Go.Proofs.Ytioppnlojlecaaa
open Go.ChangeShapes Go.WideShapes Go.ChangeAt Go.RowKit Go.Deep

def fsG : Array Field := #[{ name := "Lo", type := 24, offset := 0, embedded := false, tag := "", pkgPath := "", byteOffset := 0 }, { name := "Hi", type := 24, offset := 1, embedded := false, tag := "", pkgPath := "", byteOffset := 4 }, { name := "X", type := 4, offset := 2, embedded := false, tag := "", pkgPath := "", byteOffset := 8 }, { name := "W", type := 4, offset := 3, embedded := false, tag := "", pkgPath := "", byteOffset := 9 }]
theorem undG : Try.prog.underlying 40 = some (.struct fsG) := Try.underlying40
theorem sizeG : fsG.size = 4 := by kernel_rfl
theorem cellsG : Try.prog.cellsOf 40 = 4 := by kernel_rfl
theorem cellsGb : Try.prog.cellsOf 4 = 1 := by kernel_rfl
theorem cellsGu : Try.prog.cellsOf 24 = 1 := by kernel_rfl
theorem undGb : Try.prog.underlying 4 = some .bool := by kernel_rfl
theorem undGu : Try.prog.underlying 24 = some (.int .u32) := by kernel_rfl
theorem fG0 : (fsG[0]?).map (fun f => (f.type, f.offset)) = some (24, 0) := by kernel_rfl
theorem fG1 : (fsG[1]?).map (fun f => (f.type, f.offset)) = some (24, 1) := by kernel_rfl
theorem fG2 : (fsG[2]?).map (fun f => (f.type, f.offset)) = some (4, 2) := by kernel_rfl
theorem fG3 : (fsG[3]?).map (fun f => (f.type, f.offset)) = some (4, 3) := by kernel_rfl
theorem fieldG {i : Nat} {t o : Nat} (h : (fsG[i]?).map (fun f => (f.type, f.offset)) = some (t, o)) : ∃ f, fsG[i]? = some f ∧ f.type = t ∧ f.offset = o := by
  cases hf : fsG[i]? with
  | none => rw [hf] at h; cases h
  | some f =>
    rw [hf] at h
    simp only [Option.map_some, Option.some.injEq, Prod.mk.injEq] at h
    exact ⟨f, rfl, h.1, h.2⟩
theorem list4 {α : Type} {l : List α} (h : l.length = 4) : ∃ a b c d, l = [a, b, c, d] := by
  match l, h with
  | [a, b, c, d], _ => exact ⟨a, b, c, d, rfl⟩

section
variable {H : Type} {enc : TypeId × Value → H} {w : World} {base : Nat} {spare : Nat → Bool} {held : Bool}

theorem open_region {fuel : Nat} {cs : List Value} {x : DataW H × List MemPlace} (h : DataW.trod enc Try.prog w base spare held fuel 40 cs = some x) (hsz : cs.length = 4) :
    ∃ r : Rg, cs = rcells r ∧ RgU r := by
  obtain ⟨xs, n, _, hx, _, hlen, hall⟩ := DataW.trod_struct undG h
  rw [sizeG] at hlen
  obtain ⟨c0, c1, c2, c3, rfl⟩ := list4 hsz
  obtain ⟨x0, x1, x2, x3, rfl⟩ := list4 hlen
  obtain ⟨f0, g0, t0, o0⟩ := fieldG fG0
  obtain ⟨f1, g1, t1, o1⟩ := fieldG fG1
  obtain ⟨f2, g2, t2, o2⟩ := fieldG fG2
  obtain ⟨f3, g3, t3, o3⟩ := fieldG fG3
  have e0 := hall 0 f0 g0
  have e1 := hall 1 f1 g1
  have e2 := hall 2 f2 g2
  have e3 := hall 3 f3 g3
  rw [t0, o0, cellsGu] at e0
  rw [t1, o1, cellsGu] at e1
  rw [t2, o2, cellsGb] at e2
  rw [t3, o3, cellsGb] at e3
  simp at e0 e1 e2 e3
  obtain ⟨a, h0, y0, z0⟩ := DataW.trod_int undGu e0
  obtain ⟨b, h1, y1, z1⟩ := DataW.trod_int undGu e1
  obtain ⟨s, h2, y2⟩ := DataW.trod_bool undGb e2
  obtain ⟨d, h3, y3⟩ := DataW.trod_bool undGb e3
  simp only [List.cons.injEq, and_true] at h0 h1 h2 h3
  subst h0 h1 h2 h3
  exact ⟨⟨a, b, s, d⟩, rfl, u32_of (bounds_u32 z0), u32_of (bounds_u32 z1)⟩

/-- What the walk is told of regions that came in. -/
def IsRegs (w : World) (sa : Option Addr) (n : Nat) (l : List Rg) : Prop := n = l.length ∧ n ≤ maxLen ∧ (∀ r ∈ l, RgU r) ∧ ∃ b off, Regs w sa b off l

theorem open_regs {sa : Option Addr} {n cap : Nat} {D : DataW H} {p : List MemPlace} (h : DataW.Trod enc Try.prog w base spare held 23 (.slice sa n cap) D p) : ∃ l, IsRegs w sa n l := by
  obtain ⟨fuel, hf⟩ := h
  rcases open_slice Try.underlying23 hf with ⟨hcs, _⟩ | ⟨a, len, cap', m, k, D', Pl, hcs, _, hl, hm, hmm, _, hall⟩
  · simp [Value.cells] at hcs
    obtain ⟨rfl, rfl, rfl⟩ := hcs
    exact ⟨[], rfl, Nat.zero_le _, fun r hr => (by cases hr), 0, 0, regs_nil w⟩
  · simp [Value.cells] at hcs
    obtain ⟨rfl, rfl, rfl⟩ := hcs
    have hle : n ≤ m := by rw [hmm]; split <;> omega
    rw [cellsG] at hall
    obtain ⟨qs, hq⟩ := @choose_lt Rg ⟨noRg⟩ n (fun i q => w.cells? base (a.add (i * 4)) 4 = some (rcells q) ∧ RgU q) (fun i hi => by
      obtain ⟨cs', h1, h2⟩ := hall i (by omega)
      obtain ⟨_, hlen, _⟩ := World.cells?_some h1
      obtain ⟨q, rfl, u1⟩ := open_region h2 hlen
      exact ⟨q, h1, u1⟩)
    have hat : ∀ i, i < n → rgAt ((List.range n).map qs) i = qs i := fun i hi => by
      unfold rgAt
      simp [hi]
    have hU : ∀ r ∈ (List.range n).map qs, RgU r := by
      intro r hr
      obtain ⟨i, hi, rfl⟩ := List.mem_map.1 hr
      exact (hq i (by simpa using hi)).2
    refine ⟨(List.range n).map qs, by simp, by omega, hU, ?_⟩
    by_cases hn : n = 0
    · subst hn
      exact ⟨0, 0, ⟨fun h => absurd h (by simp), fun h => absurd h (by simp), fun i hi => absurd hi (by simp)⟩⟩
    · obtain ⟨b, off, spot⟩ := a
      have hc := (World.cells?_some (hq 0 (by omega)).1).2.2 0 (by omega)
      have hc' : w.cell? ((⟨b, off, spot⟩ : Addr).add (0 * 4) |>.add 0) = some (.int .u32 (qs 0).lo) := hc
      have hspot : spot = none := by simpa [Addr.add] using World.cell?_spot hc'
      subst hspot
      have hb : b < w.heap.size := by simpa [Addr.add] using World.block_lt_of_cell? _ _ hc'
      refine ⟨b, off, fun _ => rfl, fun _ => hb, fun i hi f v hv => ?_⟩
      have hi' : i < n := by simpa using hi
      rw [hat i hi'] at hv
      have hlt : f < 4 := by
        have := (List.getElem?_eq_some_iff.1 hv).1
        simpa [rcells] using this
      have := (World.cells?_some (hq i hi').1).2.2 f hlt
      rw [add_none, add_none] at this
      rw [this]
      exact hv
end
end Go.Proofs.Ytioppnlojlecaaa
