/-
  An instruction as an argument: what it is made of, read and read again.
-/
import Derived.Test.YtbdfaepljgajbaaLawa
import Derived.ProofKit
import Derived.OpenShut
import Derived.ShutString
import Derived.ChangeArms
import Derived.ChangeSame
namespace Go.Proofs.Ytbdfaepljgajbaa
open Go.ChangeShapes Go.WideShapes Go.ChangeAt Go.RowKit
open Go.ChangeMaps (open_string shut_string)

def fsI : Array Field := #[{ name := "Op", type := 9, offset := 0, embedded := false, tag := "", pkgPath := "", byteOffset := 0 }, { name := "Rd", type := 3, offset := 1, embedded := false, tag := "", pkgPath := "", byteOffset := 16 }, { name := "R1", type := 3, offset := 2, embedded := false, tag := "", pkgPath := "", byteOffset := 24 }, { name := "R2", type := 3, offset := 3, embedded := false, tag := "", pkgPath := "", byteOffset := 32 }, { name := "Imm", type := 21, offset := 4, embedded := false, tag := "", pkgPath := "", byteOffset := 40 }]
theorem undI : Try.prog.underlying 23 = some (.struct fsI) := Try.underlying23
theorem sizeI : fsI.size = 5 := by kernel_rfl
theorem cellsI : Try.prog.cellsOf 23 = 5 := by kernel_rfl
theorem cells9 : Try.prog.cellsOf 9 = 1 := by kernel_rfl
theorem cells3 : Try.prog.cellsOf 3 = 1 := by kernel_rfl
theorem cells21 : Try.prog.cellsOf 21 = 1 := by kernel_rfl
theorem und9 : Try.prog.underlying 9 = some .string := by kernel_rfl
theorem und3 : Try.prog.underlying 3 = some (.int .i64) := by kernel_rfl
theorem und21 : Try.prog.underlying 21 = some (.int .i32) := by kernel_rfl
theorem fI0 : (fsI[0]?).map (fun f => (f.type, f.offset)) = some (9, 0) := by kernel_rfl
theorem fI1 : (fsI[1]?).map (fun f => (f.type, f.offset)) = some (3, 1) := by kernel_rfl
theorem fI2 : (fsI[2]?).map (fun f => (f.type, f.offset)) = some (3, 2) := by kernel_rfl
theorem fI3 : (fsI[3]?).map (fun f => (f.type, f.offset)) = some (3, 3) := by kernel_rfl
theorem fI4 : (fsI[4]?).map (fun f => (f.type, f.offset)) = some (21, 4) := by kernel_rfl
theorem field_at {i : Nat} {t o : Nat} (h : (fsI[i]?).map (fun f => (f.type, f.offset)) = some (t, o)) : ∃ f, fsI[i]? = some f ∧ f.type = t ∧ f.offset = o := by
  cases hf : fsI[i]? with
  | none => rw [hf] at h; cases h
  | some f =>
    rw [hf] at h
    simp only [Option.map_some, Option.some.injEq, Prod.mk.injEq] at h
    exact ⟨f, rfl, h.1, h.2⟩
theorem list5 {α : Type} {l : List α} (h : l.length = 5) : ∃ a b c d e, l = [a, b, c, d, e] := by
  match l, h with
  | [a, b, c, d, e], _ => exact ⟨a, b, c, d, e, rfl⟩

section
variable {H : Type} {enc : TypeId × Value → H} {w : World} {base : Nat} {spare : Nat → Bool} {held : Bool}

/-- As it is read. -/
def datI (s : ByteArray) (d a b m : Int) : DataW H := .agg [.lit (.string s.data.toList), .lit (.int .i64 d), .lit (.int .i64 a), .lit (.int .i64 b), .lit (.int .i32 m)]

theorem open_ins {r : Reach} {b0 : Nat} {v : Value} {D : DataW H} {p : List MemPlace} (hv : Value.okWide Try.prog w r b0 23 v) (h : DataW.Trod enc Try.prog w base spare held 23 v D p) :
    ∃ (s : ByteArray) (d a b m : Int), v = .agg #[.string s, .int .i64 d, .int .i64 a, .int .i64 b, .int .i32 m] ∧ D = datI s d a b m ∧ p = [] ∧ s.size ≤ maxLen ∧ (Lit.int .i64 d).wf = true ∧ (Lit.int .i64 a).wf = true ∧ (Lit.int .i64 b).wf = true ∧ (Lit.int .i32 m).wf = true := by
  obtain ⟨cs, rfl, hsz⟩ := okWide_struct undI hv
  obtain ⟨fuel, hf⟩ := h
  obtain ⟨xs, n, _, hx, _, hlen, hall⟩ := DataW.trod_struct undI hf
  rw [sizeI] at hlen
  rw [cellsI] at hsz
  obtain ⟨l⟩ := cs
  obtain ⟨c0, c1, c2, c3, c4, rfl⟩ := list5 (l := l) hsz
  obtain ⟨x0, x1, x2, x3, x4, rfl⟩ := list5 hlen
  obtain ⟨f0, g0, t0, o0⟩ := field_at fI0
  obtain ⟨f1, g1, t1, o1⟩ := field_at fI1
  obtain ⟨f2, g2, t2, o2⟩ := field_at fI2
  obtain ⟨f3, g3, t3, o3⟩ := field_at fI3
  obtain ⟨f4, g4, t4, o4⟩ := field_at fI4
  have e0 := hall 0 f0 g0
  have e1 := hall 1 f1 g1
  have e2 := hall 2 f2 g2
  have e3 := hall 3 f3 g3
  have e4 := hall 4 f4 g4
  rw [t0, o0, cells9] at e0
  rw [t1, o1, cells3] at e1
  rw [t2, o2, cells3] at e2
  rw [t3, o3, cells3] at e3
  rw [t4, o4, cells21] at e4
  simp [Value.cells] at e0 e1 e2 e3 e4
  obtain ⟨s, h0, y0, z0⟩ := DataW.trod_string und9 e0
  obtain ⟨d, h1, y1, z1⟩ := DataW.trod_int und3 e1
  obtain ⟨a, h2, y2, z2⟩ := DataW.trod_int und3 e2
  obtain ⟨b, h3, y3, z3⟩ := DataW.trod_int und3 e3
  obtain ⟨m, h4, y4, z4⟩ := DataW.trod_int und21 e4
  simp only [List.cons.injEq, and_true] at h0 h1 h2 h3 h4
  subst h0 h1 h2 h3 h4 y0 y1 y2 y3 y4
  simp only [Prod.mk.injEq] at hx
  exact ⟨s, d, a, b, m, rfl, hx.1, hx.2, z0, z1, z2, z3, z4⟩

theorem shut_ins {s : ByteArray} {d a b m : Int} (hs : s.size ≤ maxLen) (h1 : (Lit.int .i64 d).wf = true) (h2 : (Lit.int .i64 a).wf = true) (h3 : (Lit.int .i64 b).wf = true) (h4 : (Lit.int .i32 m).wf = true) :
    DataW.Trod enc Try.prog w base spare held 23 (.agg #[.string s, .int .i64 d, .int .i64 a, .int .i64 b, .int .i32 m]) (datI s d a b m) [] := by
  refine ⟨2, ?_⟩
  obtain ⟨f0, g0, t0, o0⟩ := field_at fI0
  obtain ⟨f1, g1, t1, o1⟩ := field_at fI1
  obtain ⟨f2, g2, t2, o2⟩ := field_at fI2
  obtain ⟨f3, g3, t3, o3⟩ := field_at fI3
  obtain ⟨f4, g4, t4, o4⟩ := field_at fI4
  have hfs : fsI.toList = [f0, f1, f2, f3, f4] := by
    have hl : fsI.toList.length = 5 := by rw [Array.length_toList]; exact sizeI
    obtain ⟨q0, q1, q2, q3, q4, hq⟩ := list5 hl
    have e : ∀ i : Nat, fsI[i]? = [q0, q1, q2, q3, q4][i]? := fun i => by rw [← hq]; simp
    rw [e] at g0 g1 g2 g3 g4
    simp at g0 g1 g2 g3 g4
    rw [hq, g0, g1, g2, g3, g4]
  have := trod_struct_mk (enc := enc) (w := w) (base := base) (spare := spare) (held := held) (n := 1) (cs := [.string s, .int .i64 d, .int .i64 a, .int .i64 b, .int .i32 m])
    (xs := [(.lit (.string s.data.toList), []), (.lit (.int .i64 d), []), (.lit (.int .i64 a), []), (.lit (.int .i64 b), []), (.lit (.int .i32 m), [])]) undI (by rw [cellsI]; rfl)
    (by rw [hfs]; simp [t0, t1, t2, t3, t4, o0, o1, o2, o3, o4, cells9, cells3, cells21, DataW.trod, hs, h1, h2, h3, h4])
  simpa [Value.cells, datI] using this
end
end Go.Proofs.Ytbdfaepljgajbaa
