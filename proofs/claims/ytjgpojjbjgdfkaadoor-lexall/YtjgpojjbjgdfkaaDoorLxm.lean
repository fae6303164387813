/-
  A map of numbers by pairs of bytes, as a function of the pair; what is looked up in it and what is put into it.
-/
import Derived.Test.YtjgpojjbjgdfkaaDoorLxd
import Derived.Test.YtjgpojjbjgdfkaaDoorPlain
import Derived.Maps.OwnSet
import Derived.Maps.OwnOps
import Derived.DeepKeys4
import Derived.StringKeys
namespace Go.Proofs.YtjgpojjbjgdfkaaDoor
open Go.RowKit Go.Maps Go.MapKept Go.ChangeShapes Go.WideShapes Go.WideMaps

theorem pundK : Tryd.prog.underlying 66 = some (.array 2 5) := by kernel_rfl
theorem pundE : Tryd.prog.underlying 3 = some (.int .i64) := by kernel_rfl
theorem pundM : Tryd.prog.underlying 46 = some (.map 66 3) := by kernel_rfl
theorem plaidB : laidOutB Tryd.prog = true := by kernel_rfl
theorem prowK : (66 : TypeId) < Tryd.prog.types.size := of_decide_eq_true (by kernel_rfl)
theorem pkeyed : Keyed Tryd.prog 66 := Keyed.of_law (deep_law_laid plaidB (m := 2) (by omega) prowK (by kernel_rfl) (by rw [pundK]))
theorem pzero (w : World) : (zeroValue 3).run Tryd.prog w = .ok (.int .i64 0) w := by kernel_rfl
theorem pmade (w : World) : (Instr.makeMap 46 none).run Tryd.prog w = .ok (.map (some w.heap.size)) (w.alloc (.map #[] 0)) := by kernel_rfl
def U8 (a : Int) : Prop := 0 ≤ a ∧ a ≤ 255
def kp8 (a b : Int) : Lit := .string (keyBytes [.int .u8 a, .int .u8 b])
def pv8 (a b : Int) : Value := .agg #[.int .u8 a, .int .u8 b]
theorem wf_u8 {a : Int} (h : U8 a) : (Lit.int .u8 a).wf = true := by
  obtain ⟨h0, h1⟩ := h
  simp [Lit.wf, IntKind.min, IntKind.max, IntKind.bits, IntKind.signed]
  omega
def I64p (i : Int) : Prop := -9223372036854775808 ≤ i ∧ i < 9223372036854775808
theorem wf_i64p {i : Int} (h : I64p i) : (Lit.int .i64 i).wf = true := by
  obtain ⟨h0, h1⟩ := h
  simp [Lit.wf, IntKind.min, IntKind.max, IntKind.bits, IntKind.signed]
  omega
theorem pkeyType : Tryd.prog.keyType 66 = true := by kernel_rfl
theorem psizeT : ∃ n, Tryd.prog.types.size + 1 = n + 2 := ⟨_, rfl⟩
theorem pcellsK : Tryd.prog.cellsOf 66 = 2 := by kernel_rfl
theorem pcellsW : Tryd.prog.cellsOf 5 = 1 := by kernel_rfl
theorem pkey_of {a b : Int} (ha : U8 a) (hb : U8 b) : keyOf Tryd.prog 66 (pv8 a b) = some (kp8 a b) := by
  unfold pv8
  have f : (Value.agg #[.int .u8 a, .int .u8 b]).formed Tryd.prog 66 = true := by simp [Value.formed, pcellsK]
  obtain ⟨n, hn⟩ := psizeT
  unfold keyOf
  rw [pundK, pkeyType, f, hn]
  simp [Value.cells, Program.keyLits, pcellsK, pcellsW, wf_u8 ha, wf_u8 hb, List.range, List.range.loop, kp8]
theorem kp8_inj {a b a' b' : Int} (ha : U8 a) (hb : U8 b) (ha' : U8 a') (hb' : U8 b') (h : kp8 a b = kp8 a' b') : a = a' ∧ b = b' := by
  have h1 := pkey_of ha hb
  have h2 := pkey_of ha' hb'
  rw [h] at h1
  have := pkeyed.inj h1 h2
  unfold pv8 at this
  injection this with e
  simp only [Array.mk.injEq, List.cons.injEq, Value.int.injEq, true_and, and_true] at e
  exact e
/-- The map at block g is M. -/
structure MapP (w : World) (g n : Nat) (M : Int → Int → Option Int) : Prop where
  own : ∃ D : DataW Unit, w.ownsMap Tryd.prog 66 (plainElem Tryd.prog 3) g n D ∧ ∀ a b, U8 a → U8 b → Maps.has D (kp8 a b) = (M a b).isSome ∧ ∀ x, M a b = some x → ∀ z, D.atKey (kp8 a b) z = .lit (.int .i64 x)
def updP (M : Int → Int → Option Int) (a b x : Int) (a' b' : Int) : Option Int := if a' = a ∧ b' = b then some x else M a' b'
theorem mapP_made (w : World) : MapP (w.alloc (.map #[] 0)) w.heap.size 0 (fun _ _ => none) :=
  ⟨⟨.map [], World.ownsMap_made w Tryd.prog 66 _, fun _ _ _ _ => ⟨rfl, fun _ h => by cases h⟩⟩⟩
theorem mapP_lt {w : World} {g n : Nat} {M : Int → Int → Option Int} (h : MapP w g n M) : g < w.heap.size := by
  obtain ⟨⟨D, h1, _⟩⟩ := h
  exact h1.lt
theorem mapP_block {w w' : World} {g n : Nat} {M : Int → Int → Option Int} (h : MapP w g n M) (hb : w'.heap[g]? = w.heap[g]?) : MapP w' g n M := by
  obtain ⟨⟨D, ⟨es, clock, h1, h2⟩, h3⟩⟩ := h
  exact ⟨⟨D, ⟨es, clock, hb.trans h1, h2⟩, h3⟩⟩
theorem mapP_kept {w w' : World} {g n : Nat} {M : Int → Int → Option Int} (h : MapP w g n M) (hb : Below w.heap.size w w') : MapP w' g n M := by
  obtain ⟨⟨D, ⟨es, clock, h1, h2⟩, h3⟩⟩ := h
  exact ⟨⟨D, ⟨es, clock, kept_on h1 hb, h2⟩, h3⟩⟩
theorem mapP_ext {w : World} {g n : Nat} {M N : Int → Int → Option Int} (h : MapP w g n M) (e : ∀ a b, M a b = N a b) : MapP w g n N := by
  have : M = N := funext fun a => funext fun b => e a b
  rwa [← this]
theorem mapP_mono {w : World} {g n m : Nat} {M : Int → Int → Option Int} (h : MapP w g n M) (hn : n ≤ m) : MapP w g m M := by
  obtain ⟨⟨D, h1, h2⟩⟩ := h
  exact ⟨⟨D, h1.mono hn, h2⟩⟩
theorem mapP_put {w : World} {g n : Nat} {M : Int → Int → Option Int} (h : MapP w g n M) {a b x : Int} (ha : U8 a) (hb : U8 b) (hx : I64p x) (hn : n < maxLen) :
    ∃ w', (Instr.mapUpdate 46 (.map (some g)) (pv8 a b) (.int .i64 x)).run Tryd.prog w = .ok () w' ∧ MapP w' g (n + 1) (updP M a b x) ∧ w.grownBy w' (some g) := by
  obtain ⟨⟨D, h1, h2⟩⟩ := h
  have hk := pkey_of ha hb
  obtain ⟨w', e1, e2, e3⟩ := h1.update pkeyed pundM hn hk (plainElem_int pundE (wf_i64p hx))
  refine ⟨w', e1, ⟨⟨_, e2, fun a' b' ha' hb' => ?_⟩⟩, e3⟩
  unfold updP
  by_cases hji : a' = a ∧ b' = b
  · obtain ⟨rfl, rfl⟩ := hji
    rw [if_pos ⟨rfl, rfl⟩]
    refine ⟨has_put_same h1.isMap (pkeyed.key hk) _, fun y hy z => ?_⟩
    cases hy
    exact atKey_put_same h1.isMap (pkeyed.key hk) _ z
  · have hne : kp8 a' b' ≠ kp8 a b := fun e => hji (kp8_inj ha' hb' ha hb e)
    rw [if_neg hji, has_put_other hne]
    refine ⟨(h2 a' b' ha' hb').1, fun y hy z => ?_⟩
    rw [atKey_put_other hne]
    exact (h2 a' b' ha' hb').2 y hy z
theorem mapP_look {w : World} {g n : Nat} {M : Int → Int → Option Int} (h : MapP w g n M) {a b : Int} (ha : U8 a) (hb : U8 b) (c : Bool) :
    (Instr.lookup 46 (.map (some g)) (pv8 a b) c).run Tryd.prog w = .ok (if c then .tuple #[.int .i64 ((M a b).getD 0), .bool (M a b).isSome] else .int .i64 ((M a b).getD 0)) w := by
  obtain ⟨⟨D, h1, h2⟩⟩ := h
  have hk := pkey_of ha hb
  obtain ⟨q1, q2⟩ := h2 a b ha hb
  have hval : ∀ v ps, plainElem (H := Unit) Tryd.prog 3 v = some (D.atKey (kp8 a b) (.lit (.int .i64 0)), ps) → v = .int .i64 ((M a b).getD 0) := fun v ps hv => by
    obtain ⟨y, rfl, hy, _⟩ := plainElem_int_inv pundE hv
    have hy1 := congrArg Prod.fst hy
    cases hM : M a b with
    | none =>
      rw [hM] at q1
      rw [atKey_of_not_has q1] at hy1
      simp only [DataW.lit.injEq, Lit.int.injEq, true_and] at hy1
      rw [← hy1]; rfl
    | some x =>
      rw [q2 x hM] at hy1
      simp only [DataW.lit.injEq, Lit.int.injEq, true_and] at hy1
      rw [← hy1]; rfl
  cases c
  · obtain ⟨v, ps, e1, e2⟩ := h1.lookup pkeyed pundM (pzero w) (plainElem_int pundE (wf_i64p ⟨by decide, by decide⟩)) hk
    rw [e1, hval v ps e2]; rfl
  · obtain ⟨v, ps, e1, e2⟩ := h1.look_ok pkeyed pundM (pzero w) (plainElem_int pundE (wf_i64p ⟨by decide, by decide⟩)) hk
    rw [e1, hval v ps e2, q1]; rfl
end Go.Proofs.YtjgpojjbjgdfkaaDoor
