/-
  A map of words by numbers, as a function of the number; what is looked up in it and what is put into it, at the operations.
-/
import Derived.Test.YtmmaoncgfmfbjaaPlain
import Derived.Test.YtmmaoncgfmfbjaaHelp
import Derived.Maps.OwnSet
import Derived.Maps.OwnOps
namespace Go.Proofs.Ytmmaoncgfmfbjaa
open Go.RowKit Go.Maps Go.MapKept Go.ChangeShapes Go.WideShapes

theorem iundK : Try.prog.underlying 3 = some (.int .i64) := by kernel_rfl
theorem iundE : Try.prog.underlying 23 = some (.int .u32) := by kernel_rfl
theorem iundM : Try.prog.underlying 51 = some (.map 3 23) := by kernel_rfl
theorem ikeyed : Keyed Try.prog 3 := int_keyed iundK
theorem izero (w : World) : (zeroValue 23).run Try.prog w = .ok (.int .u32 0) w := by kernel_rfl
theorem imade (w : World) : (Instr.makeMap 51 none).run Try.prog w = .ok (.map (some w.heap.size)) (w.alloc (.map #[] 0)) := by kernel_rfl
def N64 (i : Int) : Prop := -9223372036854775808 ≤ i ∧ i < 9223372036854775808
theorem n64_wf {i : Int} (h : N64 i) : (Lit.int .i64 i).wf = true := by
  obtain ⟨h0, h1⟩ := h
  simp [Lit.wf, IntKind.min, IntKind.max, IntKind.bits, IntKind.signed]
  omega
theorem wf_n64 {i : Int} (h : (Lit.int .i64 i).wf = true) : N64 i := by
  simp [Lit.wf, IntKind.min, IntKind.max, IntKind.bits, IntKind.signed] at h
  unfold N64
  omega
theorem u32_wf {i : Int} (h : U32 i) : (Lit.int .u32 i).wf = true := by
  obtain ⟨h0, h1⟩ := h
  simp [Lit.wf, IntKind.min, IntKind.max, IntKind.bits, IntKind.signed]
  omega

/-- The map at block g is M. -/
structure MapIs (w : World) (g n : Nat) (M : Int → Option Int) : Prop where
  own : ∃ D : DataW Unit, w.ownsMap Try.prog 3 (plainElem Try.prog 23) g n D ∧ ∀ i, N64 i → Maps.has D (.int .i64 i) = (M i).isSome ∧ ∀ x, M i = some x → ∀ z, D.atKey (.int .i64 i) z = .lit (.int .u32 x)
  out : ∀ i, ¬ N64 i → M i = none
def updM (M : Int → Option Int) (i x : Int) (j : Int) : Option Int := if j = i then some x else M j
theorem mapIs_made (w : World) : MapIs (w.alloc (.map #[] 0)) w.heap.size 0 (fun _ => none) :=
  ⟨⟨.map [], World.ownsMap_made w Try.prog 3 _, fun _ _ => ⟨rfl, fun _ h => by cases h⟩⟩, fun _ _ => rfl⟩
theorem mapIs_block {w w' : World} {g n : Nat} {M : Int → Option Int} (h : MapIs w g n M) (hb : w'.heap[g]? = w.heap[g]?) : MapIs w' g n M := by
  obtain ⟨⟨D, ⟨es, clock, h1, h2⟩, h3⟩, h4⟩ := h
  exact ⟨⟨D, ⟨es, clock, hb.trans h1, h2⟩, h3⟩, h4⟩
theorem mapIs_lt {w : World} {g n : Nat} {M : Int → Option Int} (h : MapIs w g n M) : g < w.heap.size := by
  obtain ⟨⟨D, h1, _⟩, _⟩ := h
  exact h1.lt
theorem mapIs_kept {w w' : World} {g n : Nat} {M : Int → Option Int} (h : MapIs w g n M) (hb : Below w.heap.size w w') : MapIs w' g n M := by
  obtain ⟨⟨D, ⟨es, clock, h1, h2⟩, h3⟩, h4⟩ := h
  exact ⟨⟨D, ⟨es, clock, kept_on h1 hb, h2⟩, h3⟩, h4⟩
theorem mapIs_ext {w : World} {g n : Nat} {M N : Int → Option Int} (h : MapIs w g n M) (e : ∀ i, M i = N i) : MapIs w g n N := by
  have : M = N := funext e
  rwa [← this]
theorem mapIs_mono {w : World} {g n m : Nat} {M : Int → Option Int} (h : MapIs w g n M) (hn : n ≤ m) : MapIs w g m M := by
  obtain ⟨⟨D, h1, h2⟩, h3⟩ := h
  exact ⟨⟨D, h1.mono hn, h2⟩, h3⟩
theorem mapIs_put {w : World} {g n : Nat} {M : Int → Option Int} (h : MapIs w g n M) {i x : Int} (hi : N64 i) (hx : U32 x) (hn : n < maxLen) :
    ∃ w', (Instr.mapUpdate 51 (.map (some g)) (.int .i64 i) (.int .u32 x)).run Try.prog w = .ok () w' ∧ MapIs w' g (n + 1) (updM M i x) ∧ w.grownBy w' (some g) := by
  obtain ⟨⟨D, h1, h2⟩, h3⟩ := h
  have hk : keyOf Try.prog 3 (.int .i64 i) = some (.int .i64 i) := keyOf_int_mk iundK (n64_wf hi)
  obtain ⟨w', e1, e2, e3⟩ := h1.update ikeyed iundM hn hk (plainElem_int iundE (u32_wf hx))
  refine ⟨w', e1, ⟨⟨_, e2, fun j hj => ?_⟩, fun j hj => ?_⟩, e3⟩
  · unfold updM
    by_cases hji : j = i
    · subst hji
      rw [if_pos rfl]
      refine ⟨has_put_same h1.isMap (ikeyed.key hk) _, fun y hy z => ?_⟩
      cases hy
      exact atKey_put_same h1.isMap (ikeyed.key hk) _ z
    · have hne : (Lit.int .i64 j) ≠ .int .i64 i := fun e => hji (by injection e)
      rw [if_neg hji, has_put_other hne]
      refine ⟨(h2 j hj).1, fun y hy z => ?_⟩
      rw [atKey_put_other hne]
      exact (h2 j hj).2 y hy z
  · unfold updM
    by_cases hji : j = i
    · subst hji; exact absurd hi hj
    · rw [if_neg hji]; exact h3 j hj
/-- What is looked up, whatever the number. -/
theorem mapIs_look {w : World} {g n : Nat} {M : Int → Option Int} (h : MapIs w g n M) (i : Int) (c : Bool) :
    (Instr.lookup 51 (.map (some g)) (.int .i64 i) c).run Try.prog w = .ok (if c then .tuple #[.int .u32 ((M i).getD 0), .bool (M i).isSome] else .int .u32 ((M i).getD 0)) w := by
  obtain ⟨⟨D, h1, h2⟩, h3⟩ := h
  by_cases hi : N64 i
  · have hk : keyOf Try.prog 3 (.int .i64 i) = some (.int .i64 i) := keyOf_int_mk iundK (n64_wf hi)
    obtain ⟨q1, q2⟩ := h2 i hi
    have hval : ∀ v ps, plainElem (H := Unit) Try.prog 23 v = some (D.atKey (.int .i64 i) (.lit (.int .u32 0)), ps) → v = .int .u32 ((M i).getD 0) := fun v ps hv => by
      obtain ⟨y, rfl, hy, _⟩ := plainElem_int_inv iundE hv
      have hy1 := congrArg Prod.fst hy
      cases hM : M i with
      | none =>
        rw [hM] at q1
        rw [atKey_of_not_has q1] at hy1
        simp only [DataW.lit.injEq, Lit.int.injEq, true_and] at hy1
        rw [← hy1]; rfl
      | some x =>
        rw [q2 x hM] at hy1
        simp only [DataW.lit.injEq, Lit.int.injEq, true_and] at hy1
        rw [← hy1]; rfl
    cases c
    · obtain ⟨v, ps, e1, e2⟩ := h1.lookup ikeyed iundM (izero w) (plainElem_int iundE (u32_wf ⟨by decide, by decide⟩)) hk
      rw [e1, hval v ps e2]; rfl
    · obtain ⟨v, ps, e1, e2⟩ := h1.look_ok ikeyed iundM (izero w) (plainElem_int iundE (u32_wf ⟨by decide, by decide⟩)) hk
      rw [e1, hval v ps e2, q1]; rfl
  · rw [h3 i hi]
    obtain ⟨es, clock, hb, F, hs, _⟩ := h1
    have hx : IsKey (.int .i64) (.int .i64 i) := rfl
    have hks : ∀ y ∈ es.toList, IsKey (.int .i64) y.key ∧ y.key ≠ .int .i64 i := fun y hy => by
      obtain ⟨l, hl⟩ := F.keys y hy
      have hl' : mapKey Try.prog 3 y.key = some l := by simpa [keyOf, iundK] using hl
      obtain ⟨d', hd', k1, k2⟩ := mapKey_isKey hl'
      rw [iundK] at hd'
      cases hd'
      refine ⟨k1, fun e => hi (wf_n64 ?_)⟩
      rw [e] at hl'
      simp [mapKey] at hl'
      exact hl'.1
    rcases findNow_spec hx es.toList 0 (fun y hy => (hks y hy).1) with ⟨f1, f2⟩ | ⟨j, e0, f1, f2, f3⟩
    · have hf : (Instr.findKey 3 (.int .i64 i) es.toList).run Try.prog w = .ok none w := run_findKey iundK f1
      have hc : (Instr.checkKey es.isEmpty 10000 3 (.int .i64 i)).run Try.prog w = .ok () w := run_checkKey iundK hx _ 9999
      cases c <;> simp [Instr.lookup, run_underlying iundM, MapKept.run_getObj_map hb, hc, hf, izero w, Result.andThen]
    · exact absurd f3 (hks e0 (List.mem_of_getElem? f2)).2

section
variable {ops : Array Oper} {rest : List Oper} {o : Oper} {a : Act} {w : World} {Q : Exit → Act → World → Prop}
theorem wpList_mput (hg : o.guard = none) {m k v : Operand} (hop : o.op = .mapUpdate 51 m k v ∨ o.op = .insert 51 m k v) {b n : Nat} {M : Int → Option Int} {i x : Int}
    (hm : a.eval m = .map (some b)) (hk : a.eval k = .int .i64 i) (hv : a.eval v = .int .u32 x) (h : MapIs w b n M) (hi : N64 i) (hx : U32 x) (hn : n < maxLen)
    (hK : ∀ w', MapIs w' b (n + 1) (updM M i x) → (∀ j (ob : Obj), j ≠ b → w.heap[j]? = some ob → w'.heap[j]? = some ob) → (∀ (B : Nat) (w0 : World), B ≤ b → Below B w0 w → Below B w0 w') → wpList Try.prog ops Q rest (a.put o.dst undef) w') :
    wpList Try.prog ops Q (o :: rest) a w := by
  refine wpList_plain hg fun K' hK' => ?_
  obtain ⟨w', hrun, r1, r2⟩ := mapIs_put h hi hx hn
  unfold Oper.wp
  have hlt := mapIs_lt h
  rcases hop with hop | hop
  · simp [execOp, hop, hm, hk, hv, hrun, Result.andThen]
    exact hK' _ _ (hK w' r1 (fun j ob hj hl => (r2.block j (Array.getElem?_eq_some_iff.1 hl).1 (by simpa using hj)).trans hl) (fun B w0 hB hb => below_grown hb r2 (by omega) hB))
  · simp [execOp, hop, hm, hk, hv, hrun, Result.andThen]
    exact hK' _ _ (hK w' r1 (fun j ob hj hl => (r2.block j (Array.getElem?_eq_some_iff.1 hl).1 (by simpa using hj)).trans hl) (fun B w0 hB hb => below_grown hb r2 (by omega) hB))
theorem wpList_mget (hg : o.guard = none) {m k : Operand} (hop : o.op = .lookup 51 m k false) {b n : Nat} {M : Int → Option Int} {i : Int}
    (hm : a.eval m = .map (some b)) (hk : a.eval k = .int .i64 i) (h : MapIs w b n M) (hK : wpList Try.prog ops Q rest (a.put o.dst (.int .u32 ((M i).getD 0))) w) : wpList Try.prog ops Q (o :: rest) a w := by
  refine wpList_plain hg fun K' hK' => ?_
  have hrun := mapIs_look h i false
  unfold Oper.wp
  simp [execOp, hop, hm, hk, hrun, Result.andThen]
  exact hK' _ _ hK
theorem wpList_mgetok (hg : o.guard = none) {m k : Operand} (hop : o.op = .lookup 51 m k true) {b n : Nat} {M : Int → Option Int} {i : Int}
    (hm : a.eval m = .map (some b)) (hk : a.eval k = .int .i64 i) (h : MapIs w b n M) (hK : wpList Try.prog ops Q rest (a.put o.dst (.tuple #[.int .u32 ((M i).getD 0), .bool (M i).isSome])) w) : wpList Try.prog ops Q (o :: rest) a w := by
  refine wpList_plain hg fun K' hK' => ?_
  have hrun := mapIs_look h i true
  unfold Oper.wp
  simp [execOp, hop, hm, hk, hrun, Result.andThen]
  exact hK' _ _ hK
theorem wpList_mget_some (hg : o.guard = none) {m k : Operand} (hop : o.op = .lookup 51 m k true) {b n : Nat} {M : Int → Option Int} {i x : Int}
    (hm : a.eval m = .map (some b)) (hk : a.eval k = .int .i64 i) (h : MapIs w b n M) (hM : M i = some x) (hK : wpList Try.prog ops Q rest (a.put o.dst (.tuple #[.int .u32 x, .bool true])) w) : wpList Try.prog ops Q (o :: rest) a w :=
  wpList_mgetok hg hop hm hk h (by rw [hM]; exact hK)
theorem wpList_mget_none (hg : o.guard = none) {m k : Operand} (hop : o.op = .lookup 51 m k true) {b n : Nat} {M : Int → Option Int} {i : Int}
    (hm : a.eval m = .map (some b)) (hk : a.eval k = .int .i64 i) (h : MapIs w b n M) (hM : M i = none) (hK : wpList Try.prog ops Q rest (a.put o.dst (.tuple #[.int .u32 0, .bool false])) w) : wpList Try.prog ops Q (o :: rest) a w :=
  wpList_mgetok hg hop hm hk h (by rw [hM]; exact hK)
end
end Go.Proofs.Ytmmaoncgfmfbjaa
