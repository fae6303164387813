/-
  Package image: its two sets (of spots, of names), as functions; what is looked up in them and put into them.
-/
import Derived.Test.YtfjppgfnjjmkpaaHelp
import Derived.Test.YtfjppgfnjjmkpaaPlain
import Derived.Maps.OwnSet
import Derived.Maps.OwnOps
import Derived.StringKeys
import Derived.DeepKeys4
namespace Go.Proofs.Ytfjppgfnjjmkpaa
open Go.RowKit Go.Maps Go.MapKept Go.ChangeShapes Go.WideShapes Go.WideMaps

theorem iundK : ∃ fs, Try.prog.underlying 69 = some (.struct fs) := ⟨_, Try.underlying69⟩
theorem iundM : Try.prog.underlying 54 = some (.map 69 70) := by kernel_rfl
theorem ilaidB : laidOutB Try.prog = true := by kernel_rfl
theorem irowK : (69 : TypeId) < Try.prog.types.size := of_decide_eq_true (by kernel_rfl)
theorem ikeyed : Keyed Try.prog 69 := Keyed.of_law (deep_law_laid ilaidB (m := 2) (by omega) irowK (by kernel_rfl) (by obtain ⟨fs, h⟩ := iundK; rw [h]))
def spV (o a : Int) : Value := .agg #[.int .i64 o, .int .u32 a]
def spK (o a : Int) : Lit := .string (keyBytes [.int .i64 o, .int .u32 a])
theorem iwf_u32 {a : Int} (h : U32 a) : (Lit.int .u32 a).wf = true := by
  obtain ⟨h0, h1⟩ := h
  simp [Lit.wf, IntKind.min, IntKind.max, IntKind.bits, IntKind.signed]
  omega
def Two (o : Int) : Prop := o = 1 ∨ o = 2
theorem iwf_two {o : Int} (h : Two o) : (Lit.int .i64 o).wf = true := by
  rcases h with rfl | rfl <;> rfl
theorem ikeyType : Try.prog.keyType 69 = true := by kernel_rfl
theorem isizeT : ∃ n, Try.prog.types.size + 1 = n + 2 := ⟨_, rfl⟩
theorem icellsK : Try.prog.cellsOf 69 = 2 := by kernel_rfl
theorem icellsO : Try.prog.cellsOf 62 = 1 := by kernel_rfl
theorem icellsW : Try.prog.cellsOf 23 = 1 := by kernel_rfl
theorem ikey_of {o a : Int} (ho : Two o) (ha : U32 a) : keyOf Try.prog 69 (spV o a) = some (spK o a) := by
  unfold spV
  have f : (Value.agg #[.int .i64 o, .int .u32 a]).formed Try.prog 69 = true := by simp [Value.formed, icellsK]
  obtain ⟨n, hn⟩ := isizeT
  unfold keyOf
  rw [Try.underlying69, ikeyType, f, hn]
  simp [Value.cells, Program.keyLits, icellsK, icellsO, icellsW, iwf_u32 ha, iwf_two ho, List.range, spK]
theorem sp_inj {o a o' a' : Int} (h1 : Two o) (h2 : U32 a) (h3 : Two o') (h4 : U32 a') (h : spK o a = spK o' a') : o = o' ∧ a = a' := by
  have e1 := ikey_of h1 h2
  have e2 := ikey_of h3 h4
  rw [h] at e1
  have := ikeyed.inj e1 e2
  unfold spV at this
  injection this with e
  simp only [Array.mk.injEq, List.cons.injEq, Value.int.injEq, true_and, and_true] at e
  exact e
theorem izero (w : World) : (zeroValue 70).run Try.prog w = .ok (.agg #[]) w := by kernel_rfl
/-- The set of spots at block g is M. -/
structure SpotIs (w : World) (g n : Nat) (M : Int → Int → Bool) : Prop where
  own : ∃ D : DataW Unit, w.ownsMap Try.prog 69 (unitElem (H := Unit)) g n D ∧ ∀ o a, Two o → U32 a → Maps.has D (spK o a) = M o a
def putS (M : Int → Int → Bool) (o a : Int) (o' a' : Int) : Bool := (o' == o && a' == a) || M o' a'
theorem spot_made (w : World) : SpotIs (w.alloc (.map #[] 0)) w.heap.size 0 (fun _ _ => false) :=
  ⟨⟨.map [], World.ownsMap_made w Try.prog 69 _, fun _ _ _ _ => rfl⟩⟩
theorem spot_lt {w : World} {g n : Nat} {M : Int → Int → Bool} (h : SpotIs w g n M) : g < w.heap.size := by
  obtain ⟨⟨D, h1, _⟩⟩ := h
  exact h1.lt
theorem spot_kept {w w' : World} {g n : Nat} {M : Int → Int → Bool} (h : SpotIs w g n M) (hb : Below w.heap.size w w') : SpotIs w' g n M := by
  obtain ⟨⟨D, ⟨es, clock, h1, h2⟩, h3⟩⟩ := h
  exact ⟨⟨D, ⟨es, clock, kept_on h1 hb, h2⟩, h3⟩⟩
theorem spot_put {w : World} {g n : Nat} {M : Int → Int → Bool} (h : SpotIs w g n M) {o a : Int} (ho : Two o) (ha : U32 a) (hn : n < maxLen) :
    ∃ w', (Instr.mapUpdate 54 (.map (some g)) (spV o a) (.agg #[])).run Try.prog w = .ok () w' ∧ SpotIs w' g (n + 1) (putS M o a) ∧ w.grownBy w' (some g) := by
  obtain ⟨⟨D, h1, h2⟩⟩ := h
  obtain ⟨w', e1, e2, e3⟩ := h1.update ikeyed iundM hn (ikey_of ho ha) unitElem_mk
  refine ⟨w', e1, ⟨⟨_, e2, fun o' a' ho' ha' => ?_⟩⟩, e3⟩
  unfold putS
  by_cases hji : o' = o ∧ a' = a
  · obtain ⟨rfl, rfl⟩ := hji
    rw [has_put_same h1.isMap (ikeyed.key (ikey_of ho ha)) _]
    simp
  · rw [has_put_other (fun e => hji (sp_inj ho' ha' ho ha e)), h2 o' a' ho' ha']
    have : (o' == o && a' == a) = false := by
      cases h3 : (o' == o && a' == a) with
      | false => rfl
      | true => simp at h3; exact absurd h3 hji
    rw [this]
    rfl
section
variable {ops : Array Oper} {rest : List Oper} {o : Oper} {a : Act} {w : World} {Q : Exit → Act → World → Prop}
theorem wpList_spput (hg : o.guard = none) {m k v : Operand} (hop : o.op = .mapUpdate 54 m k v) {b n : Nat} {M : Int → Int → Bool} {i j : Int}
    (hm : a.eval m = .map (some b)) (hk : a.eval k = spV i j) (hv : a.eval v = .agg #[]) (h : SpotIs w b n M) (hi : Two i) (hj : U32 j) (hn : n < maxLen)
    (hK : ∀ w', SpotIs w' b (n + 1) (putS M i j) → w.grownBy w' (some b) → wpList Try.prog ops Q rest (a.put o.dst undef) w') :
    wpList Try.prog ops Q (o :: rest) a w := by
  refine wpList_plain hg fun K' hK' => ?_
  obtain ⟨w', hrun, r1, r2⟩ := spot_put h hi hj hn
  unfold Oper.wp
  simp [execOp, hop, hm, hk, hv, hrun, Result.andThen]
  exact hK' _ _ (hK w' r1 r2)
theorem wpList_spget (hg : o.guard = none) {m k : Operand} (hop : o.op = .lookup 54 m k true) {b n : Nat} {M : Int → Int → Bool} {i j : Int}
    (hm : a.eval m = .map (some b)) (hk : a.eval k = spV i j) (h : SpotIs w b n M) (hi : Two i) (hj : U32 j) (hK : wpList Try.prog ops Q rest (a.put o.dst (.tuple #[.agg #[], .bool (M i j)])) w) : wpList Try.prog ops Q (o :: rest) a w := by
  obtain ⟨⟨D, h1, h2⟩⟩ := h
  rw [← h2 i j hi hj] at hK
  exact wpList_lookup_own_unit _ hg m k 54 hop 69 70 ikeyed iundM (izero w) b n D hm h1 (spV i j) (spK i j) hk (ikey_of hi hj) hK
end
theorem nundK : Try.prog.underlying 9 = some .string := by kernel_rfl
theorem nundM : Try.prog.underlying 66 = some (.map 9 70) := by kernel_rfl
theorem nkeyed : Keyed Try.prog 9 := string_keyed nundK
def Nm (s : ByteArray) : Prop := s.size ≤ maxLen
def hasN (l : List ByteArray) (s : ByteArray) : Bool := l.any fun t => decide (t = s)
theorem hasN_more (l : List ByteArray) (t s : ByteArray) : hasN (l ++ [t]) s = (hasN l s || decide (t = s)) := by simp [hasN]
/-- The set of names at block g: those of the list. -/
structure NamesIs (w : World) (g n : Nat) (l : List ByteArray) : Prop where
  own : ∃ D : DataW Unit, w.ownsMap Try.prog 9 (unitElem (H := Unit)) g n D ∧ ∀ s, Nm s → Maps.has D (.string s.data.toList) = hasN l s
theorem ndata_inj {s t : ByteArray} (h : s.data.toList = t.data.toList) : s = t := by
  obtain ⟨⟨l⟩⟩ := s
  obtain ⟨⟨m⟩⟩ := t
  simp only at h
  rw [h]
theorem names_made (w : World) : NamesIs (w.alloc (.map #[] 0)) w.heap.size 0 [] :=
  ⟨⟨.map [], World.ownsMap_made w Try.prog 9 _, fun _ _ => rfl⟩⟩
theorem names_lt {w : World} {g n : Nat} {l : List ByteArray} (h : NamesIs w g n l) : g < w.heap.size := by
  obtain ⟨⟨D, h1, _⟩⟩ := h
  exact h1.lt
theorem names_kept {w w' : World} {g n : Nat} {l : List ByteArray} (h : NamesIs w g n l) (hb : Below w.heap.size w w') : NamesIs w' g n l := by
  obtain ⟨⟨D, ⟨es, clock, h1, h2⟩, h3⟩⟩ := h
  exact ⟨⟨D, ⟨es, clock, kept_on h1 hb, h2⟩, h3⟩⟩
theorem names_put {w : World} {g n : Nat} {l : List ByteArray} (h : NamesIs w g n l) {s : ByteArray} (hs : Nm s) (hn : n < maxLen) :
    ∃ w', (Instr.mapUpdate 66 (.map (some g)) (.string s) (.agg #[])).run Try.prog w = .ok () w' ∧ NamesIs w' g (n + 1) (l ++ [s]) ∧ w.grownBy w' (some g) := by
  obtain ⟨⟨D, h1, h2⟩⟩ := h
  have hk : keyOf Try.prog 9 (.string s) = some (.string s.data.toList) := keyOf_string_mk nundK hs
  obtain ⟨w', e1, e2, e3⟩ := h1.update nkeyed nundM hn hk unitElem_mk
  refine ⟨w', e1, ⟨⟨_, e2, fun t ht => ?_⟩⟩, e3⟩
  by_cases hts : t = s
  · subst hts
    rw [has_put_same h1.isMap (nkeyed.key hk) _, hasN_more]
    simp
  · have hne : (Lit.string t.data.toList) ≠ .string s.data.toList := fun e => hts (ndata_inj (by injection e))
    rw [has_put_other hne, h2 t ht, hasN_more, decide_eq_false (fun e => hts e.symm), Bool.or_false]
section
variable {ops : Array Oper} {rest : List Oper} {o : Oper} {a : Act} {w : World} {Q : Exit → Act → World → Prop}
theorem wpList_nput (hg : o.guard = none) {m k v : Operand} (hop : o.op = .mapUpdate 66 m k v) {b n : Nat} {l : List ByteArray} {s : ByteArray}
    (hm : a.eval m = .map (some b)) (hk : a.eval k = .string s) (hv : a.eval v = .agg #[]) (h : NamesIs w b n l) (hs : Nm s) (hn : n < maxLen)
    (hK : ∀ w', NamesIs w' b (n + 1) (l ++ [s]) → w.grownBy w' (some b) → wpList Try.prog ops Q rest (a.put o.dst undef) w') :
    wpList Try.prog ops Q (o :: rest) a w := by
  refine wpList_plain hg fun K' hK' => ?_
  obtain ⟨w', hrun, r1, r2⟩ := names_put h hs hn
  unfold Oper.wp
  simp [execOp, hop, hm, hk, hv, hrun, Result.andThen]
  exact hK' _ _ (hK w' r1 r2)
theorem wpList_nget (hg : o.guard = none) {m k : Operand} (hop : o.op = .lookup 66 m k true) {b n : Nat} {l : List ByteArray} {s : ByteArray}
    (hm : a.eval m = .map (some b)) (hk : a.eval k = .string s) (h : NamesIs w b n l) (hs : Nm s) (hK : wpList Try.prog ops Q rest (a.put o.dst (.tuple #[.agg #[], .bool (hasN l s)])) w) : wpList Try.prog ops Q (o :: rest) a w := by
  obtain ⟨⟨D, h1, h2⟩⟩ := h
  rw [← h2 s hs] at hK
  exact wpList_lookup_own_unit _ hg m k 66 hop 9 70 nkeyed nundM (izero w) b n D hm h1 (.string s) (.string s.data.toList) hk (keyOf_string_mk nundK hs) hK
end
end Go.Proofs.Ytfjppgfnjjmkpaa
