/-
  What the statements on status registers need of package csr; the document's example by it. (The program's own text comes in by an instance; nothing here looks into it.)
-/
import Derived.Test.YtmmaoncgfmfbjaaCsx
import Derived.Test.YtmmaoncgfmfbjaaCst
import Derived.Test.YtmmaoncgfmfbjaaCsg
import Derived.Test.YtmmaoncgfmfbjaaCse
import Derived.BigFrame
namespace Go.Proofs.Ytmmaoncgfmfbjaa
open Go.RowKit

structure CsrK : Prop where
  read : ∀ (f : Nat → Int) (u : Bool), (∀ i, U32 (f i)) → ∀ (n now : Int) (due : Bool) (w : World), Calls Try.prog 8 #[.agg (regs57 f u), .int .i64 n, .int .i64 now, .bool due] w fun e w' => e = .returned (.tuple #[.int .u32 (readN f n now due), .int .i64 (readE n)]) ∧ Below w.heap.size w w'
  write : ∀ (f : Nat → Int) (u : Bool), (∀ i, U32 (f i)) → ∀ (n x : Int), U32 x → ∀ w : World, Calls Try.prog 10 #[.agg (regs57 f u), .int .i64 n, .int .u32 x] w fun e w' => e = .returned (.tuple #[.agg (regs57 (writeF f n x) u), .int .i64 (writeE n)]) ∧ Below w.heap.size w w'
  trap : ∀ (f : Nat → Int) (u : Bool), (∀ i, U32 (f i)) → ∀ (c v : Int), U32 c → U32 v → ∀ w : World, Calls Try.prog 13 #[.agg (regs57 f u), .int .u32 c, .int .u32 v] w fun e w' => e = .returned (.agg (regs57 (trapF f u c v) false)) ∧ Below w.heap.size w w'
  ret : ∀ (f : Nat → Int) (u : Bool), (∀ i, U32 (f i)) → ∀ w : World, Calls Try.prog 15 #[.agg (regs57 f u)] w fun e w' => e = .returned (.agg (regs57 (retF f) (retU f))) ∧ Below w.heap.size w w'

theorem zErr (n : Int) (w : World) : Calls Try.prog 12 #[.int .i64 n] w fun e w' => e = .returned (.int .i64 n) ∧ w' = w := by
  go_enter Try.func12, Try.ntmps12
  go_wp2
  go_ret
  exact ⟨rfl, rfl⟩

section
variable {P : Program} {ops : Array Oper} {rest : List Oper} {o : Oper} {a : Act} {w : World} {Q : Exit → Act → World → Prop}
/-- A struct literal whose cells are known, guarded or not. -/
theorem wpList_built_is (hw : Region.wanted o (yielded ops a.tmps) = true) (t : TypeId) (parts : Array (Nat × Operand)) (ho : o.op = .build t parts) (vs : List (Nat × Value)) (hv : (parts.map fun (i, x) => (i, a.eval x)).toList = vs) (cs : Array Value) (hb : P.built t vs = some cs)
    (h : wpList P ops Q rest (a.put o.dst (.agg cs)) w) : wpList P ops Q (o :: rest) a w := by
  refine BigFrame.wpList_want hw fun K hK => wp_build t parts ho ?_ ?_
  · rw [hv, hb]; rfl
  · rw [hv, hb]; exact hK _ _ h
/-- A whole row is read, guarded or not. -/
theorem wpList_load_row_is (hwd : Region.wanted o (yielded ops a.tmps) = true) (ty : TypeId) (x : Operand) (ho : o.op = .load ty x)
    (g : Nat) (hx : a.eval x = .pointer (some ⟨g, 0, none⟩)) (t : TypeId) (cs : Array Value) (fr : Nat × Nat) (d : TypeDesc) (hg : w.heap[g]? = some (.cells cs t fr))
    (hu : P.underlying ty = some d) (hd : (match d with | .struct _ | .array _ _ => true | _ => false) = true) (hi : (P.info? ty).map (·.size) = some cs.size)
    (h : wpList P ops Q rest (a.put o.dst (.agg cs)) w) : wpList P ops Q (o :: rest) a w :=
  BigFrame.wpList_want hwd fun _ hK => wp_load_row ty x ho g hx t cs fr d hg hu hd hi (hK _ _ h)
end
theorem built0 : Try.prog.built 27 [] = some (regs57 (fun _ => 0) false) := by kernel_rfl
theorem built8 : Try.prog.built 27 [(1, .int .u32 8)] = some (regs57 (set1 (fun _ => 0) 32 8) false) := by kernel_rfl
theorem fld38 (f : Nat → Int) (u : Bool) (w : World) : (Instr.field 27 (.agg (regs57 f u)) 7).run Try.prog w = .ok (.int .u32 (f 38)) w := by kernel_rfl
theorem zero_u (i : Nat) : U32 ((fun _ => 0 : Nat → Int) i) := ⟨by show (0 : Int) ≤ 0; decide, by show (0 : Int) < 4294967296; decide⟩
theorem set1_u {f : Nat → Int} (hf : ∀ i, U32 (f i)) (j : Nat) {x : Int} (hx : U32 x) (i : Nat) : U32 (set1 f j x i) := by
  unfold set1
  split
  · exact hx
  · exact hf i

set_option maxRecDepth 100000 in
set_option maxHeartbeats 2000000 in
theorem kawake (K : CsrK) (w : World) :
    Calls Try.prog 17 #[] w fun e w' => e = .returned (.bool true) ∧ Below w.heap.size w w' := by
  have HK : Hid _ := K
  clear K
  have hfld := fld38
  go_enter Try.func17, Try.ntmps17
  go_wp2_with (first | (refine wpList_built_is (by rfl) 27 #[] rfl [] rfl _ built0 ?_))
  refine (HK.out.read (fun _ => 0) false zero_u 836 5 true w).mono ?_
  rintro e w1 ⟨rfl, b1⟩
  rw [show readN (fun _ => 0) 836 5 true = 128 by decide, show readE 836 = 0 by decide]
  go_wp2_with (first | (go_at_call 12; refine (zErr _ _).mono ?_; rintro e w' ⟨rfl, rfl⟩) | (refine wpList_built_is (by rfl) 27 #[(1, .const (.int .u32 8))] rfl [(1, .int .u32 8)] rfl _ built8 ?_))
  refine (HK.out.trap _ false (set1_u zero_u 32 ⟨by decide, by decide⟩) 3 4 ⟨by decide, by decide⟩ ⟨by decide, by decide⟩ _).mono ?_
  rintro e w2 ⟨rfl, b2⟩
  have b3 := below_step b1 b2
  have e38 : trapF (set1 (fun _ => 0) 32 8) false 3 4 38 = 8 := by decide
  generalize trapF (set1 (fun _ => 0) 32 8) false 3 4 = F at *
  clear b1 b2
  go_wp2
  go_ret
  exact ⟨rfl, b3⟩
end Go.Proofs.Ytmmaoncgfmfbjaa
