/-
  Package lex: a row of tokens grows.
-/
import Derived.Test.YtjgpojjbjgdfkaaDoorLxp
import Derived.Maps.AppendAt
namespace Go.Proofs.YtjgpojjbjgdfkaaDoor
open Go.RowKit Go.Sort

theorem info_parts' {P : Program} {t : TypeId} {z : Option Value} {s b : Nat} (h : (P.info? t).map (fun i => (i.zero, i.size, i.bytes)) = some (z, s, b)) : ∃ i, P.info? t = some i ∧ i.zero = z ∧ i.size = s ∧ i.bytes = b := by
  cases hq : P.info? t with
  | none => rw [hq] at h; cases h
  | some i =>
    rw [hq] at h
    simp only [Option.map_some, Option.some.injEq, Prod.mk.injEq] at h
    exact ⟨i, rfl, h.1, h.2.1, h.2.2⟩
theorem infoTk : (Tryd.prog.info? 33).map (fun i => (i.zero, i.size, i.bytes)) = some (some (.agg #[.int .i64 0, .string ⟨#[]⟩, .int .u32 0, .int .i64 0]), 4, 40) := by kernel_rfl
def tkC (x : Int × ByteArray × Int × Nat) : List Value := [.int .i64 x.1, .string x.2.1, .int .u32 x.2.2.1, .int .i64 x.2.2.2]
def tkrow (l : List (Int × ByteArray × Int × Nat)) : List Value := l.flatMap tkC
theorem run_app_tk {V3 : World} {ty : TypeId} {base n b0 : Nat} {v : Value} {xs : List Value} {x : Int × ByteArray × Int × Nat} (hown : V3.ownsRow base 33 4 v n xs) (hbase : base ≤ V3.heap.size) (h0 : V3.heap[b0]? = some (.cells #[.int .i64 x.1, .string x.2.1, .int .u32 x.2.2.1, .int .i64 x.2.2.2] 33)) (hn : n ≤ 1000000) :
    ∃ v' W4, (Builtin.append_ #[29, 29] ty #[v, .slice (some ⟨b0, 0, none⟩) 1 1]).run Tryd.prog V3 = .ok v' W4 ∧ W4.ownsRow base 33 4 v' (n + 1) (xs ++ tkC x) ∧ V3.grownBy W4 v.ownBlock := by
  obtain ⟨i0, hi0, hz0, hz1, hz2⟩ := info_parts' infoTk
  obtain ⟨v', W4, hrun, ho, hg, _, hb⟩ := run_append_own_at (P := Tryd.prog) V3 base 29 ty 33 i0 _ 4 40 Tryd.underlying29 hi0 hz0 hz1 hz2 rfl (by decide) v n _ hown ⟨b0, 0, none⟩ 1 1 (tkC x) rfl (fun a u hu => by
          rw [show (⟨b0, 0, none⟩ : Addr).add a = ⟨b0, a, none⟩ by rw [Addr.add_lit]; simp]
          exact (cells_of h0).1 a u (by rw [← Array.getElem?_toList]; exact hu)) (fun u hu => by
          simp [tkC] at hu
          rcases hu with rfl | rfl | rfl | rfl <;> rfl) (by unfold maxLen; omega) (by omega) hbase
  exact ⟨v', W4, hrun, ho, hg⟩
theorem wp_app' {P : Program} {ops : Array Oper} {rest : List Oper} {Q : Exit → Act → World → Prop} {o : Oper} {a : Act} {w w1 : World} {s x : Operand} {t1 t2 : TypeId} {vs vx v' : Value} (hgd : o.guard = none) (ho : o.op = .call { callee := .builtin .append, args := #[s, x], argTypes := #[t1, t2] }) (hs : a.eval s = vs) (hx : a.eval x = vx) (hr : (Builtin.append_ #[t1, t2] o.type #[vs, vx]).run P w = .ok v' w1) (h : wpList P ops Q rest (a.put o.dst v') w1) : wpList P ops Q (o :: rest) a w :=
  wpList_plain hgd fun K hK => by
    unfold Oper.wp execOp
    simp only [ho, resolve, invoke, builtin, Sem.run_bind, Sem.run_pure, Result.andThen_ok, List.map_toArray, List.map_cons, List.map_nil, hs, hx, hr]
    exact hK _ _ h
theorem owns_only {w w' : World} {rb B : Nat} {t : TypeId} {sz n : Nat} {v : Value} {l : List Value} (h : w.ownsRow B t sz v n l) (ho : Only rb w w') (hB : rb < B) : w'.ownsRow B t sz v n l := by
  obtain ⟨h1, h2 | ⟨g, cap, cur, e1, e2, e3, e4, e5, e6, e7⟩⟩ := h
  · exact ⟨h1, .inl h2⟩
  · exact ⟨h1, .inr ⟨g, cap, cur, e1, e2, ho.kept e3 (by omega), e4, e5, e6, e7⟩⟩
theorem owns_below {w w' : World} {B : Nat} {t : TypeId} {sz n : Nat} {v : Value} {l : List Value} (h : w.ownsRow B t sz v n l) (hb : Below w.heap.size w w') : w'.ownsRow B t sz v n l := by
  obtain ⟨h1, h2 | ⟨g, cap, cur, e1, e2, e3, e4, e5, e6, e7⟩⟩ := h
  · exact ⟨h1, .inl h2⟩
  · exact ⟨h1, .inr ⟨g, cap, cur, e1, e2, kept_on e3 hb, e4, e5, e6, e7⟩⟩
theorem owns_block {w : World} {B : Nat} {t : TypeId} {sz n : Nat} {v : Value} {l : List Value} (h : w.ownsRow B t sz v n l) {k : Nat} (hk : some k = v.ownBlock) : B ≤ k ∧ k < w.heap.size ∧ ∃ cs, w.heap[k]? = some (.cells cs t) := by
  obtain ⟨_, ⟨e, _⟩ | ⟨g, cap, cur, e1, e2, e3, _⟩⟩ := h
  · rw [e] at hk; cases hk
  · rw [e1] at hk
    cases hk
    exact ⟨e2, (Array.getElem?_eq_some_iff.1 e3).1, cur, e3⟩
theorem Rd.grow {B B2 : Nat} {V Y : World} {rb : Nat} {S : ByteArray} {t : TypeId} {sz n : Nat} {v : Value} {l : List Value} (h : Rd B V rb S) (ow : V.ownsRow B2 t sz v n l) (hB : rb < B2) (hg : V.grownBy Y v.ownBlock) : Rd B Y rb S := by
  have hlt := h.lt
  obtain ⟨h0, m, h1, h2⟩ := h
  refine ⟨h0, m, ?_, fun g hgm => ?_⟩
  · unfold RdAt
    rw [hg.block rb hlt (fun e => by have := owns_block ow e; omega)]
    exact h1
  · obtain ⟨a, c, n, d⟩ := h2 g hgm
    refine ⟨a, c, n, mapP_block d (hg.block g (mapP_lt d) (fun e => ?_))⟩
    obtain ⟨_, _, cs, e3⟩ := owns_block ow e
    obtain ⟨⟨D, ⟨es, clock, e1, _⟩, _⟩⟩ := d
    rw [e3] at e1
    cases e1
end Go.Proofs.YtjgpojjbjgdfkaaDoor
