/-
  Of Status just what there is stays; there and back it is as it was.
-/
import Derived.Test.YtmmaoncgfmfbjaaCsa
namespace Go.Proofs.Ytmmaoncgfmfbjaa
open Go.RowKit

section
variable {ops : Array Oper} {rest : List Oper} {o : Oper} {a : Act} {w : World} {Q : Exit → Act → World → Prop}
theorem wpList_load_reg_is (hgd : Region.wanted o (yielded ops a.tmps) = true) {x : Operand} (ho : o.op = .load 23 x) {b i : Nat} (hx : a.eval x = .pointer (some ⟨b, i, none⟩)) {f : Nat → Int} {u : Bool} {t : TypeId} (hw : w.heap[b]? = some (.cells (regs57 f u) t)) (hi : i < 57) (h3 : i ≠ 33) {y : Int} (hy : f i = y)
    (h : wpList Try.prog ops Q rest (a.put o.dst (.int .u32 y)) w) : wpList Try.prog ops Q (o :: rest) a w := by
  subst hy
  refine BigFrame.wpList_want hgd fun K hK => ?_
  unfold Oper.wp execOp
  have hv : (regs57 f u)[i]? = some (.int .u32 (f i)) := by rw [regs57_at f u i hi]; unfold rv; rw [if_neg h3]
  simp only [ho, hx, Sem.run_bind, Sem.run_pure, Result.andThen_ok, load_u32 ((cells_of hw).1 i _ hv)]
  exact hK _ _ h
theorem wpList_load_user_is (hgd : Region.wanted o (yielded ops a.tmps) = true) {x : Operand} (ho : o.op = .load 4 x) {b : Nat} (hx : a.eval x = .pointer (some ⟨b, 33, none⟩)) {f : Nat → Int} {u : Bool} {t : TypeId} (hw : w.heap[b]? = some (.cells (regs57 f u) t))
    (h : wpList Try.prog ops Q rest (a.put o.dst (.bool u)) w) : wpList Try.prog ops Q (o :: rest) a w := by
  refine BigFrame.wpList_want hgd fun K hK => ?_
  unfold Oper.wp execOp
  have hv : (regs57 f u)[33]? = some (.bool u) := rfl
  simp only [ho, hx, Sem.run_bind, Sem.run_pure, Result.andThen_ok, load_bool ((cells_of hw).1 33 _ hv)]
  exact hK _ _ h
end
theorem builtS (u : Bool) (pc tv : Int) : Try.prog.built 27 [(2, .bool u), (1, .int .u32 pc), (5, .int .u32 tv)] = some (regs57 (set1 (set1 (fun _ => 0) 32 pc) 36 tv) u) := by kernel_rfl
theorem trapS_u (s : Int) (u : Bool) : U32 (trapS s u) := by
  unfold trapS
  repeat' split
  all_goals exact bits_u32 _ _ _
theorem trapF_u {f : Nat → Int} (hf : ∀ i, U32 (f i)) (u : Bool) {c v : Int} (hc : U32 c) (hv : U32 v) (i : Nat) : U32 (trapF f u c v i) := by
  unfold trapF
  repeat' split
  all_goals first | exact hf _ | exact trapS_u _ _ | exact hc | exact hv
theorem statV_u (x : Int) : U32 (statV x) := by
  unfold statV
  split
  · exact bits_u32 _ _ _
  · exact bits_u32 _ _ _

set_option maxRecDepth 100000 in
set_option maxHeartbeats 4000000 in
theorem csrStatus_both (K : CsrK) (x pc tv c v : Int) (u : Bool) (hx : U32 x) (hpc : U32 pc) (htv : U32 tv) (hc : U32 c) (hv : U32 v) (h3 : bitsV x 11 2 = 3) (w : World) :
    Calls Try.prog 5 #[.int .u32 x, .bool u, .int .u32 pc, .int .u32 tv, .int .u32 c, .int .u32 v] w fun e w' => e = .returned (.bool true) ∧ Below w.heap.size w w' := by
  have CW : Hid _ := kawake K
  have HK : Hid _ := K
  have m6 : (bits .and .u32 x 6144 == 6144) = true := by simpa using (both_bits hx).1 h3
  have hlow : statV x = bits .or .u32 (bits .and .u32 x 136) 6144 := by unfold statV; rw [if_pos h3]
  have hS := statV_in hx
  obtain ⟨fs, hfs⟩ := und57
  have HS : Hid _ := hfs
  clear hfs K h3
  have FR : Hid (∀ i, U32 (set1 (set1 (set1 (fun _ => 0) 32 pc) 36 tv) 34 (statV x) i)) := set1_u (set1_u (set1_u zero_u 32 hpc) 36 htv) 34 (statV_u x)
  have F0 : Hid (∀ i, U32 (set1 (set1 (fun _ => 0) 32 pc) 36 tv i)) := set1_u (set1_u zero_u 32 hpc) 36 htv
  have FT : Hid (∀ i, U32 (trapF (set1 (set1 (set1 (fun _ => 0) 32 pc) 36 tv) 34 (statV x)) u c v i)) := trapF_u FR.out u hc hv
  have WR : Hid (writeF (set1 (set1 (fun _ => 0) 32 pc) 36 tv) 768 x = set1 (set1 (set1 (fun _ => 0) 32 pc) 36 tv) 34 (statV x)) := rfl
  have HX : Hid _ := hx
  have HC : Hid _ := hc
  have HV : Hid _ := hv
  clear hx hpc htv hc hv
  obtain ⟨p1, p2, p3, p4, p5, p6, p7⟩ := stats_all u _ hS
  have PP : Hid _ := And.intro p1 (And.intro p2 (And.intro p3 (And.intro p4 (And.intro p5 (And.intro p6 p7)))))
  clear p1 p2 p3 p4 p5 p6 p7 hS
  have r34 : Hid (set1 (set1 (set1 (fun _ => 0) 32 pc) 36 tv) 34 (statV x) 34 = statV x) := rfl
  have t34 : Hid (trapF (set1 (set1 (set1 (fun _ => 0) 32 pc) 36 tv) 34 (statV x)) u c v 34 = trapS (statV x) u) := rfl
  have t32 : Hid (trapF (set1 (set1 (set1 (fun _ => 0) 32 pc) 36 tv) 34 (statV x)) u c v 32 = tv) := rfl
  have t38 : Hid (trapF (set1 (set1 (set1 (fun _ => 0) 32 pc) 36 tv) 34 (statV x)) u c v 38 = pc) := rfl
  have t39 : Hid (trapF (set1 (set1 (set1 (fun _ => 0) 32 pc) 36 tv) 34 (statV x)) u c v 39 = c) := rfl
  have t40 : Hid (trapF (set1 (set1 (set1 (fun _ => 0) 32 pc) 36 tv) 34 (statV x)) u c v 40 = v) := rfl
  have b34 : Hid (retF (trapF (set1 (set1 (set1 (fun _ => 0) 32 pc) 36 tv) 34 (statV x)) u c v) 34 = retS (trapS (statV x) u)) := rfl
  have b32 : Hid (retF (trapF (set1 (set1 (set1 (fun _ => 0) 32 pc) 36 tv) 34 (statV x)) u c v) 32 = pc) := rfl
  have bU : Hid (retU (trapF (set1 (set1 (set1 (fun _ => 0) 32 pc) 36 tv) 34 (statV x)) u c v) = u) := PP.out.2.2.2.2.1
  have hb := builtS u pc tv
  go_enter Try.func5, Try.ntmps5
  go_wp2_with (first | (refine wpList_built_is (by rfl) 27 #[(2, .tmp 20), (1, .tmp 21), (5, .tmp 22)] rfl [(2, .bool u), (1, .int .u32 pc), (5, .int .u32 tv)] rfl _ hb ?_))
  refine (HK.out.write _ u F0.out 768 x HX.out _).mono ?_
  rintro e w1 ⟨rfl, b1⟩
  rw [WR.out, show writeE 768 = 0 by decide]
  clear WR F0 hb
  generalize hF : set1 (set1 (set1 (fun _ => 0) 32 pc) 36 tv) 34 (statV x) = F at *
  clear hF
  have A1 := setRow_heap _ _ _ (regs57 F u) _ _ (alloc_at w1 (.cells (regs57 (fun _ => 0) false) 27))
  have B1 : Below w.heap.size w ((w1.alloc (.cells (regs57 (fun _ => 0) false) 27)).setRow w1.heap.size (regs57 F u)) := below_setRow (b1.alloc b1.size _) b1.size _
  go_wp2_with (first | (refine wpList_store_row rfl 27 (.tmp 13) (.tmp 26) rfl _ (regs57 _ _) rfl rfl _ (regs57 (fun _ => 0) false) (alloc_at w1 _) (by rw [regs57_size]; exact info57) (by rw [regs57_size, regs57_size]) (regs57_one _ _) ?_) | (refine wpList_load_row_is (by rfl) 27 (.tmp 13) rfl _ rfl _ _ _ _ A1 HS.out rfl (by rw [regs57_size]; exact info57) ?_))
  refine (HK.out.trap F u FR.out c v HC.out HV.out _).mono ?_
  rintro e w2 ⟨rfl, b2⟩
  have A1b := kept_on A1 b2
  have B2 := below_step B1 b2
  clear B1 b1 b2 FR A1
  have l12 : w1.heap.size < w2.heap.size := (Array.getElem?_eq_some_iff.1 A1b).1
  generalize w1.heap.size = g1 at *
  generalize hT : trapF F u c v = G at *
  clear hT
  have A2 := setRow_heap _ _ _ (regs57 G false) _ _ (alloc_at w2 (.cells (regs57 (fun _ => 0) false) 27))
  have A3 : ((w2.alloc (.cells (regs57 (fun _ => 0) false) 27)).setRow w2.heap.size (regs57 G false)).heap[g1]? = some (.cells (regs57 F u) 27) := by
    rw [setRow_other _ _ _ _ (by omega)]
    exact kept_on A1b ((Below.refl _ _).alloc (Nat.le_refl _) _)
  have B3 : Below w.heap.size w ((w2.alloc (.cells (regs57 (fun _ => 0) false) 27)).setRow w2.heap.size (regs57 G false)) := below_setRow (B2.alloc B2.size _) B2.size _
  go_wp2_with (first | (refine wpList_store_row rfl 27 (.tmp 16) (.tmp 38) rfl _ (regs57 _ _) rfl rfl _ (regs57 (fun _ => 0) false) (alloc_at w2 _) (by rw [regs57_size]; exact info57) (by rw [regs57_size, regs57_size]) (regs57_one _ _) ?_) | (refine wpList_load_row_is (by rfl) 27 (.tmp 16) rfl _ rfl _ _ _ _ A2 HS.out rfl (by rw [regs57_size]; exact info57) ?_))
  refine (HK.out.ret G false FT.out _).mono ?_
  rintro e w3 ⟨rfl, b3⟩
  have A2b := kept_on A2 b3
  have A3b := kept_on A3 b3
  have B4 := below_step B3 b3
  clear B3 B2 b3 FT A1b A2 A3
  have l23 : w2.heap.size < w3.heap.size := (Array.getElem?_eq_some_iff.1 A2b).1
  generalize w2.heap.size = g2 at *
  rw [bU.out]
  clear bU
  generalize hR : retF G = H at *
  clear hR
  have A4 := setRow_heap _ _ _ (regs57 H u) _ _ (alloc_at w3 (.cells (regs57 (fun _ => 0) false) 27))
  have A5 : ((w3.alloc (.cells (regs57 (fun _ => 0) false) 27)).setRow w3.heap.size (regs57 H u)).heap[g2]? = some (.cells (regs57 G false) 27) := by
    rw [setRow_other _ _ _ _ (by omega)]
    exact kept_on A2b ((Below.refl _ _).alloc (Nat.le_refl _) _)
  have A6 : ((w3.alloc (.cells (regs57 (fun _ => 0) false) 27)).setRow w3.heap.size (regs57 H u)).heap[g1]? = some (.cells (regs57 F u) 27) := by
    rw [setRow_other _ _ _ _ (by omega)]
    exact kept_on A3b ((Below.refl _ _).alloc (Nat.le_refl _) _)
  have B5 : Below w.heap.size w ((w3.alloc (.cells (regs57 (fun _ => 0) false) 27)).setRow w3.heap.size (regs57 H u)) := below_setRow (B4.alloc B4.size _) B4.size _
  rw [hlow] at r34 t34 b34 PP
  obtain ⟨p1, p2, p3, p4, p5, p6, p7⟩ := PP.out
  clear A2b A3b B4 PP p5
  generalize retS (trapS (bits .or .u32 (bits .and .u32 x 136) 6144) u) = RS at *
  generalize trapS (bits .or .u32 (bits .and .u32 x 136) 6144) u = TS at *
  go_wp2_with (first | (refine wpList_store_row rfl 27 (.tmp 17) (.tmp 40) rfl _ (regs57 _ _) rfl rfl _ (regs57 (fun _ => 0) false) (alloc_at w3 _) (by rw [regs57_size]; exact info57) (by rw [regs57_size, regs57_size]) (regs57_one _ _) ?_) | (refine wpList_load_reg_is (by first | rfl | (simp [Region.wanted, yielded]; done)) rfl rfl A4 (by decide) (by decide) b34.out ?_) | (refine wpList_load_reg_is (by first | rfl | (simp [Region.wanted, yielded]; done)) rfl rfl A4 (by decide) (by decide) b32.out ?_) | (refine wpList_load_user_is (by first | rfl | (simp [Region.wanted, yielded]; done)) rfl rfl A4 ?_) | (refine wpList_load_reg_is (by first | rfl | (simp [Region.wanted, yielded]; done)) rfl rfl A5 (by decide) (by decide) t34.out ?_) | (refine wpList_load_reg_is (by first | rfl | (simp [Region.wanted, yielded]; done)) rfl rfl A5 (by decide) (by decide) t32.out ?_) | (refine wpList_load_reg_is (by first | rfl | (simp [Region.wanted, yielded]; done)) rfl rfl A5 (by decide) (by decide) t38.out ?_) | (refine wpList_load_reg_is (by first | rfl | (simp [Region.wanted, yielded]; done)) rfl rfl A5 (by decide) (by decide) t39.out ?_) | (refine wpList_load_reg_is (by first | rfl | (simp [Region.wanted, yielded]; done)) rfl rfl A5 (by decide) (by decide) t40.out ?_) | (refine wpList_load_user_is (by first | rfl | (simp [Region.wanted, yielded]; done)) rfl rfl A5 ?_) | (refine wpList_load_reg_is (by first | rfl | (simp [Region.wanted, yielded]; done)) rfl rfl A6 (by decide) (by decide) r34.out ?_))
  simp only [List.append_eq, List.cons_append, List.nil_append] at *
  refine (zErr _ _).mono ?_
  rintro e w' ⟨rfl, hw'⟩
  rw [hw']
  clear hw'
  go_wp2_with (first | (refine wpList_store_row rfl 27 (.tmp 17) (.tmp 40) rfl _ (regs57 _ _) rfl rfl _ (regs57 (fun _ => 0) false) (alloc_at w3 _) (by rw [regs57_size]; exact info57) (by rw [regs57_size, regs57_size]) (regs57_one _ _) ?_) | (refine wpList_load_reg_is (by first | rfl | (simp [Region.wanted, yielded]; done)) rfl rfl A4 (by decide) (by decide) b34.out ?_) | (refine wpList_load_reg_is (by first | rfl | (simp [Region.wanted, yielded]; done)) rfl rfl A4 (by decide) (by decide) b32.out ?_) | (refine wpList_load_user_is (by first | rfl | (simp [Region.wanted, yielded]; done)) rfl rfl A4 ?_) | (refine wpList_load_reg_is (by first | rfl | (simp [Region.wanted, yielded]; done)) rfl rfl A5 (by decide) (by decide) t34.out ?_) | (refine wpList_load_reg_is (by first | rfl | (simp [Region.wanted, yielded]; done)) rfl rfl A5 (by decide) (by decide) t32.out ?_) | (refine wpList_load_reg_is (by first | rfl | (simp [Region.wanted, yielded]; done)) rfl rfl A5 (by decide) (by decide) t38.out ?_) | (refine wpList_load_reg_is (by first | rfl | (simp [Region.wanted, yielded]; done)) rfl rfl A5 (by decide) (by decide) t39.out ?_) | (refine wpList_load_reg_is (by first | rfl | (simp [Region.wanted, yielded]; done)) rfl rfl A5 (by decide) (by decide) t40.out ?_) | (refine wpList_load_user_is (by first | rfl | (simp [Region.wanted, yielded]; done)) rfl rfl A5 ?_) | (refine wpList_load_reg_is (by first | rfl | (simp [Region.wanted, yielded]; done)) rfl rfl A6 (by decide) (by decide) r34.out ?_))
  refine (CW.out _).mono ?_
  rintro e w4 ⟨rfl, b4⟩
  have B6 := below_step B5 b4
  clear B5 b4 A4 A5 A6
  go_wp2
  go_ret
  exact ⟨rfl, B6⟩

set_option maxRecDepth 100000 in
set_option maxHeartbeats 4000000 in
theorem csrStatus_one (K : CsrK) (x pc tv c v : Int) (u : Bool) (hx : U32 x) (hpc : U32 pc) (htv : U32 tv) (hc : U32 c) (hv : U32 v) (h3 : ¬ bitsV x 11 2 = 3) (w : World) :
    Calls Try.prog 5 #[.int .u32 x, .bool u, .int .u32 pc, .int .u32 tv, .int .u32 c, .int .u32 v] w fun e w' => e = .returned (.bool true) ∧ Below w.heap.size w w' := by
  have CW : Hid _ := kawake K
  have HK : Hid _ := K
  have m6 : (bits .and .u32 x 6144 == 6144) = false := by simpa using fun e => h3 ((both_bits hx).2 e)
  have hlow : statV x = bits .and .u32 x 136 := by unfold statV; rw [if_neg h3]
  have hS := statV_in hx
  obtain ⟨fs, hfs⟩ := und57
  have HS : Hid _ := hfs
  clear hfs K h3
  have FR : Hid (∀ i, U32 (set1 (set1 (set1 (fun _ => 0) 32 pc) 36 tv) 34 (statV x) i)) := set1_u (set1_u (set1_u zero_u 32 hpc) 36 htv) 34 (statV_u x)
  have F0 : Hid (∀ i, U32 (set1 (set1 (fun _ => 0) 32 pc) 36 tv i)) := set1_u (set1_u zero_u 32 hpc) 36 htv
  have FT : Hid (∀ i, U32 (trapF (set1 (set1 (set1 (fun _ => 0) 32 pc) 36 tv) 34 (statV x)) u c v i)) := trapF_u FR.out u hc hv
  have WR : Hid (writeF (set1 (set1 (fun _ => 0) 32 pc) 36 tv) 768 x = set1 (set1 (set1 (fun _ => 0) 32 pc) 36 tv) 34 (statV x)) := rfl
  have HX : Hid _ := hx
  have HC : Hid _ := hc
  have HV : Hid _ := hv
  clear hx hpc htv hc hv
  obtain ⟨p1, p2, p3, p4, p5, p6, p7⟩ := stats_all u _ hS
  have PP : Hid _ := And.intro p1 (And.intro p2 (And.intro p3 (And.intro p4 (And.intro p5 (And.intro p6 p7)))))
  clear p1 p2 p3 p4 p5 p6 p7 hS
  have r34 : Hid (set1 (set1 (set1 (fun _ => 0) 32 pc) 36 tv) 34 (statV x) 34 = statV x) := rfl
  have t34 : Hid (trapF (set1 (set1 (set1 (fun _ => 0) 32 pc) 36 tv) 34 (statV x)) u c v 34 = trapS (statV x) u) := rfl
  have t32 : Hid (trapF (set1 (set1 (set1 (fun _ => 0) 32 pc) 36 tv) 34 (statV x)) u c v 32 = tv) := rfl
  have t38 : Hid (trapF (set1 (set1 (set1 (fun _ => 0) 32 pc) 36 tv) 34 (statV x)) u c v 38 = pc) := rfl
  have t39 : Hid (trapF (set1 (set1 (set1 (fun _ => 0) 32 pc) 36 tv) 34 (statV x)) u c v 39 = c) := rfl
  have t40 : Hid (trapF (set1 (set1 (set1 (fun _ => 0) 32 pc) 36 tv) 34 (statV x)) u c v 40 = v) := rfl
  have b34 : Hid (retF (trapF (set1 (set1 (set1 (fun _ => 0) 32 pc) 36 tv) 34 (statV x)) u c v) 34 = retS (trapS (statV x) u)) := rfl
  have b32 : Hid (retF (trapF (set1 (set1 (set1 (fun _ => 0) 32 pc) 36 tv) 34 (statV x)) u c v) 32 = pc) := rfl
  have bU : Hid (retU (trapF (set1 (set1 (set1 (fun _ => 0) 32 pc) 36 tv) 34 (statV x)) u c v) = u) := PP.out.2.2.2.2.1
  have hb := builtS u pc tv
  go_enter Try.func5, Try.ntmps5
  go_wp2_with (first | (refine wpList_built_is (by rfl) 27 #[(2, .tmp 20), (1, .tmp 21), (5, .tmp 22)] rfl [(2, .bool u), (1, .int .u32 pc), (5, .int .u32 tv)] rfl _ hb ?_))
  refine (HK.out.write _ u F0.out 768 x HX.out _).mono ?_
  rintro e w1 ⟨rfl, b1⟩
  rw [WR.out, show writeE 768 = 0 by decide]
  clear WR F0 hb
  generalize hF : set1 (set1 (set1 (fun _ => 0) 32 pc) 36 tv) 34 (statV x) = F at *
  clear hF
  have A1 := setRow_heap _ _ _ (regs57 F u) _ _ (alloc_at w1 (.cells (regs57 (fun _ => 0) false) 27))
  have B1 : Below w.heap.size w ((w1.alloc (.cells (regs57 (fun _ => 0) false) 27)).setRow w1.heap.size (regs57 F u)) := below_setRow (b1.alloc b1.size _) b1.size _
  go_wp2_with (first | (refine wpList_store_row rfl 27 (.tmp 13) (.tmp 26) rfl _ (regs57 _ _) rfl rfl _ (regs57 (fun _ => 0) false) (alloc_at w1 _) (by rw [regs57_size]; exact info57) (by rw [regs57_size, regs57_size]) (regs57_one _ _) ?_) | (refine wpList_load_row_is (by rfl) 27 (.tmp 13) rfl _ rfl _ _ _ _ A1 HS.out rfl (by rw [regs57_size]; exact info57) ?_))
  refine (HK.out.trap F u FR.out c v HC.out HV.out _).mono ?_
  rintro e w2 ⟨rfl, b2⟩
  have A1b := kept_on A1 b2
  have B2 := below_step B1 b2
  clear B1 b1 b2 FR A1
  have l12 : w1.heap.size < w2.heap.size := (Array.getElem?_eq_some_iff.1 A1b).1
  generalize w1.heap.size = g1 at *
  generalize hT : trapF F u c v = G at *
  clear hT
  have A2 := setRow_heap _ _ _ (regs57 G false) _ _ (alloc_at w2 (.cells (regs57 (fun _ => 0) false) 27))
  have A3 : ((w2.alloc (.cells (regs57 (fun _ => 0) false) 27)).setRow w2.heap.size (regs57 G false)).heap[g1]? = some (.cells (regs57 F u) 27) := by
    rw [setRow_other _ _ _ _ (by omega)]
    exact kept_on A1b ((Below.refl _ _).alloc (Nat.le_refl _) _)
  have B3 : Below w.heap.size w ((w2.alloc (.cells (regs57 (fun _ => 0) false) 27)).setRow w2.heap.size (regs57 G false)) := below_setRow (B2.alloc B2.size _) B2.size _
  go_wp2_with (first | (refine wpList_store_row rfl 27 (.tmp 16) (.tmp 38) rfl _ (regs57 _ _) rfl rfl _ (regs57 (fun _ => 0) false) (alloc_at w2 _) (by rw [regs57_size]; exact info57) (by rw [regs57_size, regs57_size]) (regs57_one _ _) ?_) | (refine wpList_load_row_is (by rfl) 27 (.tmp 16) rfl _ rfl _ _ _ _ A2 HS.out rfl (by rw [regs57_size]; exact info57) ?_))
  refine (HK.out.ret G false FT.out _).mono ?_
  rintro e w3 ⟨rfl, b3⟩
  have A2b := kept_on A2 b3
  have A3b := kept_on A3 b3
  have B4 := below_step B3 b3
  clear B3 B2 b3 FT A1b A2 A3
  have l23 : w2.heap.size < w3.heap.size := (Array.getElem?_eq_some_iff.1 A2b).1
  generalize w2.heap.size = g2 at *
  rw [bU.out]
  clear bU
  generalize hR : retF G = H at *
  clear hR
  have A4 := setRow_heap _ _ _ (regs57 H u) _ _ (alloc_at w3 (.cells (regs57 (fun _ => 0) false) 27))
  have A5 : ((w3.alloc (.cells (regs57 (fun _ => 0) false) 27)).setRow w3.heap.size (regs57 H u)).heap[g2]? = some (.cells (regs57 G false) 27) := by
    rw [setRow_other _ _ _ _ (by omega)]
    exact kept_on A2b ((Below.refl _ _).alloc (Nat.le_refl _) _)
  have A6 : ((w3.alloc (.cells (regs57 (fun _ => 0) false) 27)).setRow w3.heap.size (regs57 H u)).heap[g1]? = some (.cells (regs57 F u) 27) := by
    rw [setRow_other _ _ _ _ (by omega)]
    exact kept_on A3b ((Below.refl _ _).alloc (Nat.le_refl _) _)
  have B5 : Below w.heap.size w ((w3.alloc (.cells (regs57 (fun _ => 0) false) 27)).setRow w3.heap.size (regs57 H u)) := below_setRow (B4.alloc B4.size _) B4.size _
  rw [hlow] at r34 t34 b34 PP
  obtain ⟨p1, p2, p3, p4, p5, p6, p7⟩ := PP.out
  clear A2b A3b B4 PP p5
  generalize retS (trapS (bits .and .u32 x 136) u) = RS at *
  generalize trapS (bits .and .u32 x 136) u = TS at *
  go_wp2_with (first | (refine wpList_store_row rfl 27 (.tmp 17) (.tmp 40) rfl _ (regs57 _ _) rfl rfl _ (regs57 (fun _ => 0) false) (alloc_at w3 _) (by rw [regs57_size]; exact info57) (by rw [regs57_size, regs57_size]) (regs57_one _ _) ?_) | (refine wpList_load_reg_is (by first | rfl | (simp [Region.wanted, yielded]; done)) rfl rfl A4 (by decide) (by decide) b34.out ?_) | (refine wpList_load_reg_is (by first | rfl | (simp [Region.wanted, yielded]; done)) rfl rfl A4 (by decide) (by decide) b32.out ?_) | (refine wpList_load_user_is (by first | rfl | (simp [Region.wanted, yielded]; done)) rfl rfl A4 ?_) | (refine wpList_load_reg_is (by first | rfl | (simp [Region.wanted, yielded]; done)) rfl rfl A5 (by decide) (by decide) t34.out ?_) | (refine wpList_load_reg_is (by first | rfl | (simp [Region.wanted, yielded]; done)) rfl rfl A5 (by decide) (by decide) t32.out ?_) | (refine wpList_load_reg_is (by first | rfl | (simp [Region.wanted, yielded]; done)) rfl rfl A5 (by decide) (by decide) t38.out ?_) | (refine wpList_load_reg_is (by first | rfl | (simp [Region.wanted, yielded]; done)) rfl rfl A5 (by decide) (by decide) t39.out ?_) | (refine wpList_load_reg_is (by first | rfl | (simp [Region.wanted, yielded]; done)) rfl rfl A5 (by decide) (by decide) t40.out ?_) | (refine wpList_load_user_is (by first | rfl | (simp [Region.wanted, yielded]; done)) rfl rfl A5 ?_) | (refine wpList_load_reg_is (by first | rfl | (simp [Region.wanted, yielded]; done)) rfl rfl A6 (by decide) (by decide) r34.out ?_))
  simp only [List.append_eq, List.cons_append, List.nil_append] at *
  refine (zErr _ _).mono ?_
  rintro e w' ⟨rfl, hw'⟩
  rw [hw']
  clear hw'
  go_wp2_with (first | (refine wpList_store_row rfl 27 (.tmp 17) (.tmp 40) rfl _ (regs57 _ _) rfl rfl _ (regs57 (fun _ => 0) false) (alloc_at w3 _) (by rw [regs57_size]; exact info57) (by rw [regs57_size, regs57_size]) (regs57_one _ _) ?_) | (refine wpList_load_reg_is (by first | rfl | (simp [Region.wanted, yielded]; done)) rfl rfl A4 (by decide) (by decide) b34.out ?_) | (refine wpList_load_reg_is (by first | rfl | (simp [Region.wanted, yielded]; done)) rfl rfl A4 (by decide) (by decide) b32.out ?_) | (refine wpList_load_user_is (by first | rfl | (simp [Region.wanted, yielded]; done)) rfl rfl A4 ?_) | (refine wpList_load_reg_is (by first | rfl | (simp [Region.wanted, yielded]; done)) rfl rfl A5 (by decide) (by decide) t34.out ?_) | (refine wpList_load_reg_is (by first | rfl | (simp [Region.wanted, yielded]; done)) rfl rfl A5 (by decide) (by decide) t32.out ?_) | (refine wpList_load_reg_is (by first | rfl | (simp [Region.wanted, yielded]; done)) rfl rfl A5 (by decide) (by decide) t38.out ?_) | (refine wpList_load_reg_is (by first | rfl | (simp [Region.wanted, yielded]; done)) rfl rfl A5 (by decide) (by decide) t39.out ?_) | (refine wpList_load_reg_is (by first | rfl | (simp [Region.wanted, yielded]; done)) rfl rfl A5 (by decide) (by decide) t40.out ?_) | (refine wpList_load_user_is (by first | rfl | (simp [Region.wanted, yielded]; done)) rfl rfl A5 ?_) | (refine wpList_load_reg_is (by first | rfl | (simp [Region.wanted, yielded]; done)) rfl rfl A6 (by decide) (by decide) r34.out ?_))
  refine (CW.out _).mono ?_
  rintro e w4 ⟨rfl, b4⟩
  have B6 := below_step B5 b4
  clear B5 b4 A4 A5 A6
  go_wp2
  go_ret
  exact ⟨rfl, B6⟩

theorem csrStatus (K : CsrK) (x pc tv c v : Int) (u : Bool) (hx : U32 x) (hpc : U32 pc) (htv : U32 tv) (hc : U32 c) (hv : U32 v) (w : World) :
    Calls Try.prog 5 #[.int .u32 x, .bool u, .int .u32 pc, .int .u32 tv, .int .u32 c, .int .u32 v] w fun e w' => e = .returned (.bool true) ∧ Below w.heap.size w w' := by
  by_cases h : bitsV x 11 2 = 3
  · exact csrStatus_both K x pc tv c v u hx hpc htv hc hv h w
  · exact csrStatus_one K x pc tv c v u hx hpc htv hc hv h w
end Go.Proofs.Ytmmaoncgfmfbjaa
