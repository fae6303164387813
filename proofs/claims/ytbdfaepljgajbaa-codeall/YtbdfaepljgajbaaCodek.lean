/-
  Keys of three words, and forms as what a map holds at them.
-/
import Derived.Test.YtbdfaepljgajbaaCodeo
import Derived.Maps.OwnSet
import Derived.DeepKeys4
namespace Go.Proofs.Ytbdfaepljgajbaa
open Go.RowKit Go.Maps

theorem undK : Try.prog.underlying 77 = some (.array 3 24) := by kernel_rfl
theorem undW : Try.prog.underlying 24 = some (.int .u32) := by kernel_rfl
theorem undM : Try.prog.underlying 79 = some (.map 77 51) := by kernel_rfl
theorem laidB : laidOutB Try.prog = true := by kernel_rfl
theorem rowK : (77 : TypeId) < Try.prog.types.size := of_decide_eq_true (by kernel_rfl)
theorem keyed : Keyed Try.prog 77 := Keyed.of_law (deep_law_laid laidB (m := 2) (by omega) rowK (by kernel_rfl) (by rw [undK]))
/-- A key as the library reads it. -/
def klV (a b c : Int) : Lit := .string (keyBytes [.int .u32 a, .int .u32 b, .int .u32 c])
theorem wf_u32 {a : Int} (h : U32 a) : (Lit.int .u32 a).wf = true := by
  obtain ⟨h0, h1⟩ := h
  simp [Lit.wf, IntKind.min, IntKind.max, IntKind.bits, IntKind.signed]
  omega
theorem keyType : Try.prog.keyType 77 = true := by kernel_rfl
theorem sizeT : ∃ n, Try.prog.types.size + 1 = n + 2 := ⟨_, rfl⟩
theorem cellsK : Try.prog.cellsOf 77 = 3 := by kernel_rfl
theorem cellsW : Try.prog.cellsOf 24 = 1 := by kernel_rfl
theorem key_of {a b c : Int} (ha : U32 a) (hb : U32 b) (hc : U32 c) : keyOf Try.prog 77 (.agg #[.int .u32 a, .int .u32 b, .int .u32 c]) = some (klV a b c) := by
  have f : (Value.agg #[.int .u32 a, .int .u32 b, .int .u32 c]).formed Try.prog 77 = true := by simp [Value.formed, cellsK]
  obtain ⟨n, hn⟩ := sizeT
  unfold keyOf
  rw [undK, keyType, f, hn]
  simp [Value.cells, Program.keyLits, cellsK, cellsW, wf_u32 ha, wf_u32 hb, wf_u32 hc, List.range, List.range.loop, klV]
theorem kl_inj {a b c a' b' c' : Int} (ha : U32 a) (hb : U32 b) (hc : U32 c) (ha' : U32 a') (hb' : U32 b') (hc' : U32 c') (h : klV a b c = klV a' b' c') : a = a' ∧ b = b' ∧ c = c' := by
  have h1 := key_of ha hb hc
  have h2 := key_of ha' hb' hc'
  rw [h] at h1
  have := keyed.inj h1 h2
  injection this with e
  simp only [Array.mk.injEq, List.cons.injEq, Value.int.injEq, true_and, and_true] at e
  exact e

/-- A form that a map holds, as it is read. -/
def datV (s : ByteArray) (la o f g : Int) : DataW Unit := .agg [.lit (.string s.data.toList), .lit (.int .i64 la), .lit (.int .u32 o), .lit (.int .u32 f), .lit (.int .u32 g)]
def readF (v : Value) : Option (DataW Unit × List MemPlace) :=
  match v with
  | .agg cs => match cs.toList with
    | [.string s, .int .i64 la, .int .u32 o, .int .u32 f, .int .u32 g] => some (datV s la o f g, [])
    | _ => none
  | _ => none
theorem readF_mk (s : ByteArray) (la o f g : Int) : readF (.agg #[.string s, .int .i64 la, .int .u32 o, .int .u32 f, .int .u32 g]) = some (datV s la o f g, []) := rfl
theorem readF_inv {v : Value} {s : ByteArray} {la o f g : Int} {ps : List MemPlace} (h : readF v = some (datV s la o f g, ps)) : v = .agg #[.string s, .int .i64 la, .int .u32 o, .int .u32 f, .int .u32 g] := by
  unfold readF at h
  split at h
  · rename_i cs
    split at h
    · rename_i s' la' o' f' g' hl
      simp only [Option.some.injEq, Prod.mk.injEq, datV, DataW.agg.injEq, List.cons.injEq, DataW.lit.injEq, Lit.string.injEq, Lit.int.injEq, true_and, and_true] at h
      obtain ⟨⟨h1, h2, h3, h4, h5⟩, _⟩ := h
      have hs : s' = s := bytes_ext (by rw [ByteArray.toList_eq, ByteArray.toList_eq]; exact h1)
      subst h2 h3 h4 h5 hs
      congr 1
      have := congrArg List.toArray hl
      simpa using this
    · cases h
  · cases h

def fo (j : Nat) : Int := (formAt j).2.o
def fg (j : Nat) : Int := (formAt j).2.g
def ff (j : Nat) : Int := (formAt j).2.f
def datA (j : Nat) : DataW Unit := datV (opAt j) (lay9 (formAt j).2.k) (fo j) (ff j) (fg j)
/-- The map holds just the first k forms of an opcode, each at its key. -/
def MapOf (opc : Int) (k : Nat) (D : DataW Unit) : Prop := ∀ a b c, U32 a → U32 b → U32 c →
  (∃ j, j < k ∧ fo j = opc ∧ fo j = a ∧ fg j = b ∧ ff j = c ∧ Maps.has D (klV a b c) = true ∧ ∀ z, D.atKey (klV a b c) z = datA j) ∨
  ((∀ j, j < k → fo j = opc → ¬ (fo j = a ∧ fg j = b ∧ ff j = c)) ∧ Maps.has D (klV a b c) = false)

theorem form_u32 (j : Nat) (h : j < 53) : U32 (fo j) ∧ U32 (ff j) ∧ U32 (fg j) := by
  have : ∀ q ∈ forms, U32 q.2.o ∧ U32 q.2.f ∧ U32 q.2.g := by simp [forms, U32]
  exact this _ (formAt_mem j h)
theorem map_start (opc : Int) : MapOf opc 0 (.map []) := fun _ _ _ _ _ _ => Or.inr ⟨fun j hj => absurd hj (Nat.not_lt_zero j), rfl⟩
theorem map_skip {opc : Int} {k : Nat} {D : DataW Unit} (h : MapOf opc k D) (hk : fo k ≠ opc) : MapOf opc (k + 1) D := by
  intro a b c ha hb hc
  rcases h a b c ha hb hc with ⟨j, hj, h⟩ | ⟨h1, h2⟩
  · exact Or.inl ⟨j, by omega, h⟩
  · refine Or.inr ⟨fun j hj ho => ?_, h2⟩
    rcases Nat.lt_succ_iff_lt_or_eq.mp hj with h | h
    · exact h1 j h ho
    · rw [h] at ho; exact absurd ho hk
theorem map_put {opc : Int} {k : Nat} {D : DataW Unit} (hk53 : k < 53) (hD : IsMap D) (h : MapOf opc k D) (hk : fo k = opc) : MapOf opc (k + 1) (D.put (klV (fo k) (fg k) (ff k)) (datA k)) := by
  obtain ⟨u1, u2, u3⟩ := form_u32 k hk53
  intro a b c ha hb hc
  by_cases e : fo k = a ∧ fg k = b ∧ ff k = c
  · obtain ⟨rfl, rfl, rfl⟩ := e
    have hkl := keyed.key (key_of ha hb hc)
    exact Or.inl ⟨k, by omega, hk, rfl, rfl, rfl, has_put_same hD hkl _, fun z => atKey_put_same hD hkl _ z⟩
  · have hne : klV a b c ≠ klV (fo k) (fg k) (ff k) := fun h => e (by
      obtain ⟨h1, h2, h3⟩ := kl_inj ha hb hc u1 u3 u2 h
      exact ⟨h1.symm, h2.symm, h3.symm⟩)
    rw [has_put_other hne]
    rcases h a b c ha hb hc with ⟨j, hj, h1, h2, h3, h4, h5, h6⟩ | ⟨h1, h2⟩
    · exact Or.inl ⟨j, by omega, h1, h2, h3, h4, h5, fun z => by rw [atKey_put_other hne]; exact h6 z⟩
    · refine Or.inr ⟨fun j hj ho => ?_, h2⟩
      rcases Nat.lt_succ_iff_lt_or_eq.mp hj with h | h
      · exact h1 j h ho
      · rw [h]; exact e
end Go.Proofs.Ytbdfaepljgajbaa
