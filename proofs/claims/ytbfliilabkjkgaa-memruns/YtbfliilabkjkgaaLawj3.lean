/-
  Asks as an argument: what they are made of, read.
-/
import Derived.Test.YtbfliilabkjkgaaLawm3
import Derived.Test.YtbfliilabkjkgaaMemn
import Derived.ProofKit
import Derived.OpenShut
import Derived.ShutString
import Derived.ChangeArms
import Derived.ChangeSame
import Derived.Deep.Slices
namespace Go.Proofs.Ytbfliilabkjkgaa
open Go.ChangeShapes Go.WideShapes Go.ChangeAt Go.RowKit Go.Deep

def fsA : Array Field := #[{ name := "Store", type := 4, offset := 0, embedded := false, tag := "", pkgPath := "", byteOffset := 0 }, { name := "Sign", type := 4, offset := 1, embedded := false, tag := "", pkgPath := "", byteOffset := 1 }, { name := "At", type := 30, offset := 2, embedded := false, tag := "", pkgPath := "", byteOffset := 4 }, { name := "Size", type := 3, offset := 3, embedded := false, tag := "", pkgPath := "", byteOffset := 8 }, { name := "X", type := 30, offset := 4, embedded := false, tag := "", pkgPath := "", byteOffset := 16 }]
theorem undA : Try.prog.underlying 32 = some (.struct fsA) := Try.underlying32
theorem sizeA : fsA.size = 5 := by kernel_rfl
theorem cellsA : Try.prog.cellsOf 32 = 5 := by kernel_rfl
theorem cellsA4 : Try.prog.cellsOf 4 = 1 := by kernel_rfl
theorem cellsA3 : Try.prog.cellsOf 3 = 1 := by kernel_rfl
theorem cellsA30 : Try.prog.cellsOf 30 = 1 := by kernel_rfl
theorem undA4 : Try.prog.underlying 4 = some .bool := by kernel_rfl
theorem undA3 : Try.prog.underlying 3 = some (.int .i64) := by kernel_rfl
theorem undA30 : Try.prog.underlying 30 = some (.int .u32) := by kernel_rfl
theorem fA0 : (fsA[0]?).map (fun f => (f.type, f.offset)) = some (4, 0) := by kernel_rfl
theorem fA1 : (fsA[1]?).map (fun f => (f.type, f.offset)) = some (4, 1) := by kernel_rfl
theorem fA2 : (fsA[2]?).map (fun f => (f.type, f.offset)) = some (30, 2) := by kernel_rfl
theorem fA3 : (fsA[3]?).map (fun f => (f.type, f.offset)) = some (3, 3) := by kernel_rfl
theorem fA4 : (fsA[4]?).map (fun f => (f.type, f.offset)) = some (30, 4) := by kernel_rfl
theorem fieldA {i : Nat} {t o : Nat} (h : (fsA[i]?).map (fun f => (f.type, f.offset)) = some (t, o)) : ∃ f, fsA[i]? = some f ∧ f.type = t ∧ f.offset = o := by
  cases hf : fsA[i]? with
  | none => rw [hf] at h; cases h
  | some f =>
    rw [hf] at h
    simp only [Option.map_some, Option.some.injEq, Prod.mk.injEq] at h
    exact ⟨f, rfl, h.1, h.2⟩
theorem listA {α : Type} {l : List α} (h : l.length = 5) : ∃ a b c d e, l = [a, b, c, d, e] := by
  match l, h with
  | [a, b, c, d, e], _ => exact ⟨a, b, c, d, e, rfl⟩

def noAsk : QAsk := ⟨false, false, 0, 0, 0⟩

section
variable {H : Type} {enc : TypeId × Value → H} {w : World} {base : Nat} {spare : Nat → Bool} {held : Bool}

theorem open_ask {fuel : Nat} {cs : List Value} {x : DataW H × List MemPlace} (h : DataW.trod enc Try.prog w base spare held fuel 32 cs = some x) (hsz : cs.length = 5) :
    ∃ q : QAsk, cs = qcells q ∧ U32 q.at' ∧ U32 q.x := by
  obtain ⟨xs, n, _, hx, _, hlen, hall⟩ := DataW.trod_struct undA h
  rw [sizeA] at hlen
  obtain ⟨c0, c1, c2, c3, c4, rfl⟩ := listA hsz
  obtain ⟨x0, x1, x2, x3, x4, rfl⟩ := listA hlen
  obtain ⟨f0, g0, t0, o0⟩ := fieldA fA0
  obtain ⟨f1, g1, t1, o1⟩ := fieldA fA1
  obtain ⟨f2, g2, t2, o2⟩ := fieldA fA2
  obtain ⟨f3, g3, t3, o3⟩ := fieldA fA3
  obtain ⟨f4, g4, t4, o4⟩ := fieldA fA4
  have e0 := hall 0 f0 g0
  have e1 := hall 1 f1 g1
  have e2 := hall 2 f2 g2
  have e3 := hall 3 f3 g3
  have e4 := hall 4 f4 g4
  rw [t0, o0, cellsA4] at e0
  rw [t1, o1, cellsA4] at e1
  rw [t2, o2, cellsA30] at e2
  rw [t3, o3, cellsA3] at e3
  rw [t4, o4, cellsA30] at e4
  simp at e0 e1 e2 e3 e4
  obtain ⟨s, h0, y0⟩ := DataW.trod_bool undA4 e0
  obtain ⟨d, h1, y1⟩ := DataW.trod_bool undA4 e1
  obtain ⟨a, h2, y2, z2⟩ := DataW.trod_int undA30 e2
  obtain ⟨b, h3, y3, z3⟩ := DataW.trod_int undA3 e3
  obtain ⟨m, h4, y4, z4⟩ := DataW.trod_int undA30 e4
  simp only [List.cons.injEq, and_true] at h0 h1 h2 h3 h4
  subst h0 h1 h2 h3 h4
  exact ⟨⟨s, d, a, b, m⟩, rfl, u32_of (bounds_u32 z2), u32_of (bounds_u32 z4)⟩

/-- What the walk is told of the asks. -/
def IsAsks (w : World) (sa : Option Addr) (n : Nat) (qs : Nat → QAsk) : Prop :=
  ∃ b off, n ≤ maxLen ∧ (0 < n → sa = some ⟨b, off, none⟩ ∧ b < w.heap.size) ∧ ∀ i, i < n → (∀ f v, (qcells (qs i))[f]? = some v → w.cell? ⟨b, off + i * 5 + f, none⟩ = some v) ∧ U32 (qs i).at' ∧ U32 (qs i).x

theorem add_none (b o i : Nat) : (⟨b, o, none⟩ : Addr).add i = ⟨b, o + i, none⟩ := by
  unfold Addr.add
  split
  · rename_i h; subst h; rfl
  · rfl

theorem open_asks {sa : Option Addr} {n cap : Nat} {D : DataW H} {p : List MemPlace} (h : DataW.Trod enc Try.prog w base spare held 23 (.slice sa n cap) D p) : ∃ qs, IsAsks w sa n qs := by
  obtain ⟨fuel, hf⟩ := h
  rcases open_slice Try.underlying23 hf with ⟨hcs, _⟩ | ⟨a, len, cap', m, k, D', Pl, hcs, _, hl, hm, hmm, _, hall⟩
  · simp [Value.cells] at hcs
    obtain ⟨rfl, rfl, rfl⟩ := hcs
    exact ⟨fun _ => noAsk, 0, 0, Nat.zero_le _, fun h => absurd h (by omega), fun i hi => absurd hi (by omega)⟩
  · simp [Value.cells] at hcs
    obtain ⟨rfl, rfl, rfl⟩ := hcs
    have hle : n ≤ m := by rw [hmm]; split <;> omega
    rw [cellsA] at hall
    obtain ⟨qs, hq⟩ := @choose_lt QAsk ⟨noAsk⟩ n (fun i q => w.cells? base (a.add (i * 5)) 5 = some (qcells q) ∧ U32 q.at' ∧ U32 q.x) (fun i hi => by
      obtain ⟨cs', h1, h2⟩ := hall i (by omega)
      obtain ⟨_, hlen, _⟩ := World.cells?_some h1
      obtain ⟨q, rfl, u1, u2⟩ := open_ask h2 hlen
      exact ⟨q, h1, u1, u2⟩)
    by_cases hn : n = 0
    · subst hn
      exact ⟨qs, 0, 0, Nat.zero_le _, fun h => absurd h (by omega), fun i hi => absurd hi (by omega)⟩
    · obtain ⟨b, off, spot⟩ := a
      have hc := (World.cells?_some (hq 0 (by omega)).1).2.2 0 (by omega)
      have hc' : w.cell? ((⟨b, off, spot⟩ : Addr).add (0 * 5) |>.add 0) = some (.bool (qs 0).st) := hc
      have hspot : spot = none := by simpa [Addr.add] using World.cell?_spot hc'
      subst hspot
      have hb : b < w.heap.size := by simpa [Addr.add] using World.block_lt_of_cell? _ _ hc'
      refine ⟨qs, b, off, by omega, fun _ => ⟨rfl, hb⟩, fun i hi => ⟨fun f v hv => ?_, (hq i hi).2⟩⟩
      have hlt : f < 5 := by
        have := (List.getElem?_eq_some_iff.1 hv).1
        simpa [qcells] using this
      have := (World.cells?_some (hq i hi).1).2.2 f hlt
      rw [add_none, add_none] at this
      rw [this]
      exact hv
end

theorem memRuns {Is : World → Addr → List Int → (Nat → Prop) → Prop} (K : MemK Is) (a sa : Option Addr) (n cap n2 cap2 : Nat) (zs : List Int) (w : World)
    (h : (a = none ∧ n = 0 ∧ cap = 0 ∧ zs = []) ∨ ∃ p, a = some p ∧ n ≤ cap ∧ cap ≤ maxLen ∧ zs.length = cap ∧ (∀ i, i < zs.length → w.cell? (p.add i) = some (.int .u32 (zs.getD i 0))) ∧ ∀ z ∈ zs, (Lit.int .u32 z).wf = true)
    (qs : Nat → QAsk) (hq : IsAsks w sa n2 qs) :
    Calls Try.prog 3 #[.slice a n cap, .slice sa n2 cap2] w fun e w' => e = .returned (.bool true) ∧ Below w.heap.size w w' := by
  obtain ⟨b2, off2, hm2, hsa, hq⟩ := hq
  have hm : n ≤ maxLen := by
    rcases h with ⟨_, rfl, _, _⟩ | ⟨_, _, h1, h2, _⟩
    · exact Nat.zero_le _
    · omega
  by_cases h0 : 200 < n ∨ 80 < n2
  · exact memRuns_many K a sa n cap n2 cap2 h0 hm hm2 w
  · rcases h with ⟨rfl, rfl, rfl, rfl⟩ | ⟨p, rfl, hl, hmc, hz, hcell, hwz⟩
    · exact memRuns_none K _ sa _ n2 cap2 (by omega) w
    · by_cases hn : n = 0
      · subst hn
        exact memRuns_none K _ sa _ n2 cap2 (by omega) w
      · obtain ⟨b, off, spot⟩ := p
        have hc := hcell 0 (by omega)
        have hspot : spot = none := by simpa [Addr.add] using World.cell?_spot hc
        subst hspot
        have hb : b < w.heap.size := by simpa [Addr.add] using World.block_lt_of_cell? _ _ hc
        refine memRuns_way K b off n cap b2 off2 n2 cap2 sa (zs.take n) qs (by simp; omega) (by omega) (by omega) (by omega) hl (fun z hzz => u32_of (bounds_u32 (hwz z (List.mem_of_mem_take hzz)))) w (fun i hi => ?_) hb hq hsa
        have hci := hcell i (by omega)
        rw [add_none] at hci
        rw [hci]
        unfold wordAt
        simp [List.getElem?_take_of_lt hi]
end Go.Proofs.Ytbfliilabkjkgaa
