/-
  A map of numbers by names, as a function of the name; what is looked up in it and what is put into it, at the operations.
-/
import Derived.Test.YtpjnefnngmlpjaaPlain
import Derived.Test.YtpjnefnngmlpjaaHelp
import Derived.Maps.OwnSet
import Derived.Maps.OwnOps
import Derived.StringKeys
namespace Go.Proofs.Ytpjnefnngmlpjaa
open Go.RowKit Go.Maps Go.MapKept Go.ChangeShapes Go.WideShapes Go.WideMaps

theorem sundK : Try.prog.underlying 9 = some .string := by kernel_rfl
theorem sundE : Try.prog.underlying 3 = some (.int .i64) := by kernel_rfl
theorem sundM : Try.prog.underlying 71 = some (.map 9 3) := by kernel_rfl
theorem skeyed : Keyed Try.prog 9 := string_keyed sundK
theorem szero (w : World) : (zeroValue 3).run Try.prog w = .ok (.int .i64 0) w := by kernel_rfl
theorem smade (w : World) : (Instr.makeMap 71 none).run Try.prog w = .ok (.map (some w.heap.size)) (w.alloc (.map #[] 0)) := by kernel_rfl
def I64 (i : Int) : Prop := -9223372036854775808 ≤ i ∧ i < 9223372036854775808
theorem i64_wf {i : Int} (h : I64 i) : (Lit.int .i64 i).wf = true := by
  obtain ⟨h0, h1⟩ := h
  simp [Lit.wf, IntKind.min, IntKind.max, IntKind.bits, IntKind.signed]
  omega
def Nm (s : ByteArray) : Prop := s.size ≤ maxLen
/-- The map at block g is M. -/
structure MapS (w : World) (g n : Nat) (M : ByteArray → Option Int) : Prop where
  own : ∃ D : DataW Unit, w.ownsMap Try.prog 9 (plainElem Try.prog 3) g n D ∧ ∀ s, Nm s → Maps.has D (.string s.data.toList) = (M s).isSome ∧ ∀ x, M s = some x → ∀ z, D.atKey (.string s.data.toList) z = .lit (.int .i64 x)
def updS (M : ByteArray → Option Int) (i : ByteArray) (x : Int) (j : ByteArray) : Option Int := if j = i then some x else M j
theorem mapS_made (w : World) : MapS (w.alloc (.map #[] 0)) w.heap.size 0 (fun _ => none) :=
  ⟨⟨.map [], World.ownsMap_made w Try.prog 9 _, fun _ _ => ⟨rfl, fun _ h => by cases h⟩⟩⟩
theorem mapS_lt {w : World} {g n : Nat} {M : ByteArray → Option Int} (h : MapS w g n M) : g < w.heap.size := by
  obtain ⟨⟨D, h1, _⟩⟩ := h
  exact h1.lt
theorem mapS_block {w w' : World} {g n : Nat} {M : ByteArray → Option Int} (h : MapS w g n M) (hb : w'.heap[g]? = w.heap[g]?) : MapS w' g n M := by
  obtain ⟨⟨D, ⟨es, clock, h1, h2⟩, h3⟩⟩ := h
  exact ⟨⟨D, ⟨es, clock, hb.trans h1, h2⟩, h3⟩⟩
theorem mapS_kept {w w' : World} {g n : Nat} {M : ByteArray → Option Int} (h : MapS w g n M) (hb : Below w.heap.size w w') : MapS w' g n M := by
  obtain ⟨⟨D, ⟨es, clock, h1, h2⟩, h3⟩⟩ := h
  exact ⟨⟨D, ⟨es, clock, kept_on h1 hb, h2⟩, h3⟩⟩
theorem mapS_ext {w : World} {g n : Nat} {M N : ByteArray → Option Int} (h : MapS w g n M) (e : ∀ i, M i = N i) : MapS w g n N := by
  have : M = N := funext e
  rwa [← this]
theorem mapS_mono {w : World} {g n m : Nat} {M : ByteArray → Option Int} (h : MapS w g n M) (hn : n ≤ m) : MapS w g m M := by
  obtain ⟨⟨D, h1, h2⟩⟩ := h
  exact ⟨⟨D, h1.mono hn, h2⟩⟩
theorem data_inj {s t : ByteArray} (h : s.data.toList = t.data.toList) : s = t := by
  obtain ⟨⟨l⟩⟩ := s
  obtain ⟨⟨m⟩⟩ := t
  simp only at h
  rw [h]
theorem mapS_put {w : World} {g n : Nat} {M : ByteArray → Option Int} (h : MapS w g n M) {i : ByteArray} {x : Int} (hi : Nm i) (hx : I64 x) (hn : n < maxLen) :
    ∃ w', (Instr.mapUpdate 71 (.map (some g)) (.string i) (.int .i64 x)).run Try.prog w = .ok () w' ∧ MapS w' g (n + 1) (updS M i x) ∧ w.grownBy w' (some g) := by
  obtain ⟨⟨D, h1, h2⟩⟩ := h
  have hk : keyOf Try.prog 9 (.string i) = some (.string i.data.toList) := keyOf_string_mk sundK hi
  obtain ⟨w', e1, e2, e3⟩ := h1.update skeyed sundM hn hk (plainElem_int sundE (i64_wf hx))
  refine ⟨w', e1, ⟨⟨_, e2, fun j hj => ?_⟩⟩, e3⟩
  unfold updS
  by_cases hji : j = i
  · subst hji
    rw [if_pos rfl]
    refine ⟨has_put_same h1.isMap (skeyed.key hk) _, fun y hy z => ?_⟩
    cases hy
    exact atKey_put_same h1.isMap (skeyed.key hk) _ z
  · have hne : (Lit.string j.data.toList) ≠ .string i.data.toList := fun e => hji (data_inj (by injection e))
    rw [if_neg hji, has_put_other hne]
    refine ⟨(h2 j hj).1, fun y hy z => ?_⟩
    rw [atKey_put_other hne]
    exact (h2 j hj).2 y hy z
theorem mapS_look {w : World} {g n : Nat} {M : ByteArray → Option Int} (h : MapS w g n M) (i : ByteArray) (hi : Nm i) (c : Bool) :
    (Instr.lookup 71 (.map (some g)) (.string i) c).run Try.prog w = .ok (if c then .tuple #[.int .i64 ((M i).getD 0), .bool (M i).isSome] else .int .i64 ((M i).getD 0)) w := by
  obtain ⟨⟨D, h1, h2⟩⟩ := h
  have hk : keyOf Try.prog 9 (.string i) = some (.string i.data.toList) := keyOf_string_mk sundK hi
  obtain ⟨q1, q2⟩ := h2 i hi
  have hval : ∀ v ps, plainElem (H := Unit) Try.prog 3 v = some (D.atKey (.string i.data.toList) (.lit (.int .i64 0)), ps) → v = .int .i64 ((M i).getD 0) := fun v ps hv => by
    obtain ⟨y, rfl, hy, _⟩ := plainElem_int_inv sundE hv
    have hy1 := congrArg Prod.fst hy
    cases hM : M i with
    | none =>
      rw [hM] at q1
      rw [atKey_of_not_has q1] at hy1
      simp only [DataW.lit.injEq, Lit.int.injEq, true_and] at hy1
      rw [← hy1]; rfl
    | some x =>
      rw [q2 x hM] at hy1
      simp only [DataW.lit.injEq, Lit.int.injEq, true_and] at hy1
      rw [← hy1]; rfl
  cases c
  · obtain ⟨v, ps, e1, e2⟩ := h1.lookup skeyed sundM (szero w) (plainElem_int sundE (i64_wf ⟨by decide, by decide⟩)) hk
    rw [e1, hval v ps e2]; rfl
  · obtain ⟨v, ps, e1, e2⟩ := h1.look_ok skeyed sundM (szero w) (plainElem_int sundE (i64_wf ⟨by decide, by decide⟩)) hk
    rw [e1, hval v ps e2, q1]; rfl

section
variable {ops : Array Oper} {rest : List Oper} {o : Oper} {a : Act} {w : World} {Q : Exit → Act → World → Prop}
theorem wpList_sput (hg : o.guard = none) {m k v : Operand} (hop : o.op = .mapUpdate 71 m k v ∨ o.op = .insert 71 m k v) {b n : Nat} {M : ByteArray → Option Int} {i : ByteArray} {x : Int}
    (hm : a.eval m = .map (some b)) (hk : a.eval k = .string i) (hv : a.eval v = .int .i64 x) (h : MapS w b n M) (hi : Nm i) (hx : I64 x) (hn : n < maxLen)
    (hK : ∀ w', MapS w' b (n + 1) (updS M i x) → (∀ j (ob : Obj), j ≠ b → w.heap[j]? = some ob → w'.heap[j]? = some ob) → (∀ (B : Nat) (w0 : World), B ≤ b → Below B w0 w → Below B w0 w') → wpList Try.prog ops Q rest (a.put o.dst undef) w') :
    wpList Try.prog ops Q (o :: rest) a w := by
  refine wpList_plain hg fun K' hK' => ?_
  obtain ⟨w', hrun, r1, r2⟩ := mapS_put h hi hx hn
  unfold Oper.wp
  have hlt := mapS_lt h
  rcases hop with hop | hop
  · simp [execOp, hop, hm, hk, hv, hrun, Result.andThen]
    exact hK' _ _ (hK w' r1 (fun j ob hj hl => (r2.block j (Array.getElem?_eq_some_iff.1 hl).1 (by simpa using hj)).trans hl) (fun B w0 hB hb => below_grown hb r2 (by omega) hB))
  · simp [execOp, hop, hm, hk, hv, hrun, Result.andThen]
    exact hK' _ _ (hK w' r1 (fun j ob hj hl => (r2.block j (Array.getElem?_eq_some_iff.1 hl).1 (by simpa using hj)).trans hl) (fun B w0 hB hb => below_grown hb r2 (by omega) hB))
theorem wpList_sget (hg : o.guard = none) {m k : Operand} (hop : o.op = .lookup 71 m k false) {b n : Nat} {M : ByteArray → Option Int} {i : ByteArray}
    (hm : a.eval m = .map (some b)) (hk : a.eval k = .string i) (h : MapS w b n M) (hi : Nm i) (hK : wpList Try.prog ops Q rest (a.put o.dst (.int .i64 ((M i).getD 0))) w) : wpList Try.prog ops Q (o :: rest) a w := by
  refine wpList_plain hg fun K' hK' => ?_
  have hrun := mapS_look h i hi false
  unfold Oper.wp
  simp [execOp, hop, hm, hk, hrun, Result.andThen]
  exact hK' _ _ hK
theorem wpList_sgetok (hg : o.guard = none) {m k : Operand} (hop : o.op = .lookup 71 m k true) {b n : Nat} {M : ByteArray → Option Int} {i : ByteArray}
    (hm : a.eval m = .map (some b)) (hk : a.eval k = .string i) (h : MapS w b n M) (hi : Nm i) (hK : wpList Try.prog ops Q rest (a.put o.dst (.tuple #[.int .i64 ((M i).getD 0), .bool (M i).isSome])) w) : wpList Try.prog ops Q (o :: rest) a w := by
  refine wpList_plain hg fun K' hK' => ?_
  have hrun := mapS_look h i hi true
  unfold Oper.wp
  simp [execOp, hop, hm, hk, hrun, Result.andThen]
  exact hK' _ _ hK
end
end Go.Proofs.Ytpjnefnngmlpjaa
