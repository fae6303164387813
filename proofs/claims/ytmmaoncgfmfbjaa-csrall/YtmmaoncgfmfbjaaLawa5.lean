/-
  What any register says, what is written, what a trap and a way back make, are the document's.
-/
import Derived.Test.YtmmaoncgfmfbjaaCsk
import Derived.Test.YtmmaoncgfmfbjaaFill
import Derived.Test.YtmmaoncgfmfbjaaCame
import Derived.Deep.MidRow
namespace Go.Proofs.Ytmmaoncgfmfbjaa
open Go.RowKit

def allTab : Array Value := #[.int .i64 768, .int .i64 772, .int .i64 773, .int .i64 832, .int .i64 833, .int .i64 834, .int .i64 835, .int .i64 836, .int .i64 3072, .int .i64 1984, .int .i64 1991, .int .i64 1999]
theorem allTab_at (k : Nat) (hk : k < 12) : ∃ m, allTab[k]? = some (.int .i64 m) := by
  have : k = 0 ∨ k = 1 ∨ k = 2 ∨ k = 3 ∨ k = 4 ∨ k = 5 ∨ k = 6 ∨ k = 7 ∨ k = 8 ∨ k = 9 ∨ k = 10 ∨ k = 11 := by omega
  rcases this with rfl | rfl | rfl | rfl | rfl | rfl | rfl | rfl | rfl | rfl | rfl | rfl
  all_goals exact ⟨_, rfl⟩
theorem got_alloc (w : World) : (Instr.alloc 34 true (.tuple #[])).run Try.prog w = .ok (.pointer (some ⟨w.heap.size, 0, none⟩)) (w.alloc (.cells #[.int .u32 0, .int .i64 0] 34)) := by kernel_rfl
theorem got_info : (Try.prog.info? 34).map (·.size) = some 2 := by kernel_rfl
theorem wrote_alloc (w : World) : (Instr.alloc 39 true (.tuple #[])).run Try.prog w = .ok (.pointer (some ⟨w.heap.size, 0, none⟩)) (w.alloc (.cells (row58 (fun _ => 0) false 0) 39)) := by kernel_rfl

/-- What lies there ahead of the last statement. -/
structure AllSt (w0 : World) (F G1 G2 : Nat → Int) (u : Bool) (N1 E1 N2 E2 e1 e2 : Int) (r p1 p2 q1 q2 s1 s2 : Nat) (w : World) : Prop where
  r : w.heap[r]? = some (.cells (regs57 F u) 27)
  p1 : w.heap[p1]? = some (.cells #[.int .u32 N1, .int .i64 E1] 34)
  p2 : w.heap[p2]? = some (.cells #[.int .u32 N2, .int .i64 E2] 34)
  q1 : w.heap[q1]? = some (.cells (regs57 G1 u) 27)
  q2 : w.heap[q2]? = some (.cells (regs57 G2 u) 27)
  s1 : w.heap[s1]? = some (.cells (row58 G1 u e1) 39)
  s2 : w.heap[s2]? = some (.cells (row58 G2 u e2) 39)
  below : Below w0.heap.size w0 w
theorem AllSt.on {w0 : World} {F G1 G2 : Nat → Int} {u : Bool} {N1 E1 N2 E2 e1 e2 : Int} {r p1 p2 q1 q2 s1 s2 : Nat} {w w' : World} (h : AllSt w0 F G1 G2 u N1 E1 N2 E2 e1 e2 r p1 p2 q1 q2 s1 s2 w) (hb : Below w.heap.size w w') : AllSt w0 F G1 G2 u N1 E1 N2 E2 e1 e2 r p1 p2 q1 q2 s1 s2 w' :=
  ⟨kept_on h.r hb, kept_on h.p1 hb, kept_on h.p2 hb, kept_on h.q1 hb, kept_on h.q2 hb, kept_on h.s1 hb, kept_on h.s2 hb, below_step h.below hb⟩
theorem row58_range {w : World} {b : Nat} {f : Nat → Int} {u : Bool} {e : Int} {t : TypeId} (h : w.heap[b]? = some (.cells (row58 f u e) t)) : w.rangeAt b 0 (regs57 f u).toList := by
  refine range_of h fun j v hv => ?_
  have hj : j < 57 := by
    have := (List.getElem?_eq_some_iff.1 hv).1
    rwa [Array.length_toList, regs57_size] at this
  rw [Nat.zero_add]
  unfold row58
  rw [Array.getElem?_push_lt (by rw [regs57_size]; exact hj)]
  rw [Array.getElem?_toList, Array.getElem?_eq_getElem (by rw [regs57_size]; exact hj)] at hv
  exact hv
theorem row58_last {w : World} {b : Nat} {f : Nat → Int} {u : Bool} {e : Int} {t : TypeId} (h : w.heap[b]? = some (.cells (row58 f u e) t)) : w.cell? ⟨b, 57, none⟩ = some (.int .i64 e) := by
  refine (cells_of h).1 57 _ ?_
  unfold row58
  have := Array.getElem?_push_size (xs := regs57 f u) (x := .int .i64 e)
  rw [regs57_size] at this
  exact this

set_option maxRecDepth 100000 in
set_option maxHeartbeats 8000000 in
theorem csrAll_way (K : CsrK) (sa : Option Addr) (b off n' cap : Nat) (l : List Int) (u : Bool) (n wh x y now : Int) (due : Bool) (hwh : 0 ≤ wh) (hx : U32 x) (hy : U32 y) (hl : ∀ z ∈ l, U32 z) (w : World) (hm : n' ≤ maxLen) (hsa : 0 < n' → sa = some ⟨b, off, none⟩ ∧ b < w.heap.size) (hc : ∀ i, i < n' → w.cell? ⟨b, off + i, none⟩ = some (.int .u32 (l.getD i 0))) :
    Calls Try.prog 3 #[.slice sa n' cap, .bool u, .int .i64 n, .int .u8 wh, .int .u32 x, .int .u32 y, .int .i64 now, .bool due] w fun e w' => e = .returned (.bool true) ∧ Below w.heap.size w w' := by
  have CW : Hid _ := kawake K
  have HK : Hid _ := K
  have HX : Hid _ := hx
  have HY : Hid _ := hy
  have CR : Hid _ := lregs sa b off n' cap l u w hm hsa hc
  have HF : Hid (∀ i, U32 (regsF l n' i)) := fun i => regsP_u (wat_u hl n') 8 i
  obtain ⟨fs, hfs⟩ := und57
  have HS : Hid _ := hfs
  have hmo : Try.prog.follows .mixedOrders = true := by kernel_rfl
  clear hfs K hx hy hl hm hsa hc
  generalize regsF l n' = F at *
  have T1 : wh.tmod 12 = wh % 12 := Int.tmod_eq_emod_of_nonneg hwh
  obtain ⟨k, hk⟩ := Int.eq_ofNat_of_zero_le (show 0 ≤ wh % 12 by omega)
  have k1 : (k : Int) < 12 := by omega
  have k0 : (0 : Int) ≤ (k : Int) := by omega
  obtain ⟨m, hm⟩ := allTab_at k (by omega)
  have HT : Hid _ := hm
  rw [hk] at T1
  clear hm hk hwh
  go_enter Try.func3, Try.ntmps3
  go_wp2_with fail
  refine Calls.mono CR.out ?_
  rintro e w1 ⟨rfl, b1⟩
  go_wp2_with (first | (refine wpList_fill rfl 27 (.tmp 17) (.tmp 33) rfl rfl (regs57 _ _) rfl 27 _ (by rw [regs57_size]; exact info57) (by rw [zero57, regs57_size, regs57_size]) (regs57_one _ _) ?_))
  intro w2 A2 b2
  have B2 : Hid _ := below_step b1 b2
  generalize w1.heap.size = r at *
  clear b1 b2 CR
  have A3 : Hid (∀ D, (w2.alloc D).heap[r]? = some (.cells (regs57 F u) 27)) := fun D => kept_on A2 ((Below.refl _ _).alloc (Nat.le_refl _) _)
  have B3 : Hid (∀ D, Below w.heap.size w (w2.alloc D)) := fun D => B2.out.alloc B2.out.size _
  go_wp2_with (first | (refine wpList_load_int rfl rfl rfl (alloc_at w2 (.cells allTab 3)) HT.out ?_) | (refine wpList_row (by rfl) 27 (.tmp 17) rfl _ rfl _ _ _ (A3.out _) HS.out rfl (by rw [regs57_size]; exact info57) ?_))
  refine (HK.out.read F u HF.out n now due _).mono ?_
  rintro e w3 ⟨rfl, b3⟩
  have A4 := kept_on (A3.out _) b3
  have B4 : Hid _ := below_step (B3.out _) b3
  clear b3 A3 B3 A2 B2 HT
  generalize hN1 : readN F n now due = N1 at *
  generalize hE1 : readE n = E1 at *
  go_wp2_with (first | (refine wpList_row (by rfl) 27 (.tmp 17) rfl _ rfl _ _ _ A4 HS.out rfl (by rw [regs57_size]; exact info57) ?_))
  refine (HK.out.read F u HF.out m now due _).mono ?_
  rintro e w4 ⟨rfl, b4⟩
  have A5 := kept_on A4 b4
  have B5 : Hid _ := below_step B4.out b4
  clear b4 A4 B4
  generalize hN2 : readN F m now due = N2 at *
  generalize hE2 : readE m = E2 at *
  have C1 : Hid (∀ w, Calls Try.prog 9 #[.agg (regs57 F u), .int .i64 n, .int .i64 now, .bool due] w fun e w' => e = .returned (.agg #[.int .u32 N1, .int .i64 E1]) ∧ Below w.heap.size w w') := fun w => by have := rRead F u n now due w; rw [hN1, hE1] at this; exact this
  have C2 : Hid (∀ w, Calls Try.prog 9 #[.agg (regs57 F u), .int .i64 m, .int .i64 now, .bool due] w fun e w' => e = .returned (.agg #[.int .u32 N2, .int .i64 E2]) ∧ Below w.heap.size w w') := fun w => by have := rRead F u m now due w; rw [hN2, hE2] at this; exact this
  clear hN1 hE1 hN2 hE2
  go_wp2_with fail
  refine wp_region_mix [⟨10, 23, 34, 12, 59, #[.int .u32 0, .int .i64 0], #[.int .u32 N1, .int .i64 E1]⟩, ⟨11, 24, 34, 13, 64, #[.int .u32 0, .int .i64 0], #[.int .u32 N2, .int .i64 E2]⟩]
    [.agg (regs57 F u), .int .i64 n, .int .i64 now, .bool due, .agg #[.int .u32 N1, .int .i64 E1], .agg (regs57 F u), .int .i64 m, .int .i64 now, .bool due, .agg #[.int .u32 N2, .int .i64 E2], undef, undef, undef, undef]
    hmo (by kernel_rfl) ?_ ?_ ?_ ?_ ?_
  · intro r hr
    simp only [List.mem_cons, List.not_mem_nil, or_false] at hr
    rcases hr with rfl | rfl
    · exact (by decide : 23 < 158)
    · exact (by decide : 24 < 158)
  · generalize hl : lay _ _ _ = af
    have e17 : af.tmps[17]?.getD undef = .pointer (some ⟨r, 0, none⟩) := by rw [← hl]; kernel_rfl
    have e2 : af.tmps[2]?.getD undef = .int .i64 n := by rw [← hl]; kernel_rfl
    have e6 : af.tmps[6]?.getD undef = .int .i64 now := by rw [← hl]; kernel_rfl
    have e7 : af.tmps[7]?.getD undef = .bool due := by rw [← hl]; kernel_rfl
    have e18 : af.tmps[18]?.getD undef = .int .i64 m := by rw [← hl]; kernel_rfl
    have e55 : af.tmps[55]?.getD undef = .agg (regs57 F u) := by rw [← hl]; kernel_rfl
    have e56 : af.tmps[56]?.getD undef = .int .i64 n := by rw [← hl]; kernel_rfl
    have e57 : af.tmps[57]?.getD undef = .int .i64 now := by rw [← hl]; kernel_rfl
    have e58 : af.tmps[58]?.getD undef = .bool due := by rw [← hl]; kernel_rfl
    have e60 : af.tmps[60]?.getD undef = .agg (regs57 F u) := by rw [← hl]; kernel_rfl
    have e61 : af.tmps[61]?.getD undef = .int .i64 m := by rw [← hl]; kernel_rfl
    have e62 : af.tmps[62]?.getD undef = .int .i64 now := by rw [← hl]; kernel_rfl
    have e63 : af.tmps[63]?.getD undef = .bool due := by rw [← hl]; kernel_rfl
    have v17 : af.eval (.tmp 17) = .pointer (some ⟨r, 0, none⟩) := by simpa [Act.eval] using e17
    clear hl
    refine And.intro (fun w' hw => quiet_row 27 (.tmp 17) rfl _ v17 _ _ _ (kept_on A5 hw) HS.out rfl (by rw [regs57_size]; exact info57)) ?_
    refine And.intro (fun w' hw => quiet_run (by simp [execOp, go_sem, e2])) ?_
    refine And.intro (fun w' hw => quiet_run (by simp [execOp, go_sem, e6])) ?_
    refine And.intro (fun w' hw => quiet_run (by simp [execOp, go_sem, e7])) ?_
    refine And.intro (fun w' hw => quiet_enter 9 #[.agg (regs57 F u), .int .i64 n, .int .i64 now, .bool due] (by simp [go_sem, e55, e56, e57, e58]) (C1.out _)) ?_
    refine And.intro (fun w' hw => quiet_row 27 (.tmp 17) rfl _ v17 _ _ _ (kept_on A5 hw) HS.out rfl (by rw [regs57_size]; exact info57)) ?_
    refine And.intro (fun w' hw => quiet_run (by simp [execOp, go_sem, e18])) ?_
    refine And.intro (fun w' hw => quiet_run (by simp [execOp, go_sem, e6])) ?_
    refine And.intro (fun w' hw => quiet_run (by simp [execOp, go_sem, e7])) ?_
    refine And.intro (fun w' hw => quiet_enter 9 #[.agg (regs57 F u), .int .i64 m, .int .i64 now, .bool due] (by simp [go_sem, e60, e61, e62, e63]) (C2.out _)) ?_
    exact ⟨True.intro, True.intro, True.intro, True.intro, True.intro⟩
  · intro r hr
    simp only [List.mem_cons, List.not_mem_nil, or_false] at hr
    rcases hr with rfl | rfl <;> exact got_alloc
  · intro r hr
    simp only [List.mem_cons, List.not_mem_nil, or_false] at hr
    generalize hl : lay _ _ _ = af
    have e59 : af.eval (.tmp 59) = .agg #[.int .u32 N1, .int .i64 E1] := by rw [← hl]; kernel_rfl
    have e64 : af.eval (.tmp 64) = .agg #[.int .u32 N2, .int .i64 E2] := by rw [← hl]; kernel_rfl
    clear hl
    rcases hr with rfl | rfl
    · intro w' b' hb
      rw [e59]
      exact turned_row _ _ #[.int .u32 0, .int .i64 0] #[.int .u32 N1, .int .i64 E1] got_info rfl (by simp [Value.oneCell']) b' hb
    · intro w' b' hb
      rw [e64]
      exact turned_row _ _ #[.int .u32 0, .int .i64 0] #[.int .u32 N2, .int .i64 E2] got_info rfl (by simp [Value.oneCell']) b' hb
  intro β W5 hW hbl _
  have hp1 := (hbl _ (List.mem_cons_self)).2.2
  have hp2 := (hbl _ (List.mem_cons_of_mem _ List.mem_cons_self)).2.2
  simp only at hp1 hp2
  simp [putAl, lay, Act.put]
  generalize β 23 = p1 at *
  generalize β 24 = p2 at *
  have A6 := kept_on A5 hW
  have B6 : Hid _ := below_step B5.out hW
  clear hbl A5 B5 hW C1 C2
  have C3 : Hid (∀ w, Calls Try.prog 11 #[.agg (regs57 F u), .int .i64 n, .int .u32 x] w fun e w' => e = .returned (.agg (row58 (writeF F n x) u (writeE n))) ∧ Below w.heap.size w w') := fun w => rWrite F u n x HX.out w
  have C4 : Hid (∀ w, Calls Try.prog 11 #[.agg (regs57 F u), .int .i64 m, .int .u32 x] w fun e w' => e = .returned (.agg (row58 (writeF F m x) u (writeE m))) ∧ Below w.heap.size w w') := fun w => rWrite F u m x HX.out w
  go_wp2_with (first | (refine wpList_row (by rfl) 27 (.tmp 17) rfl _ rfl _ _ _ A6 HS.out rfl (by rw [regs57_size]; exact info57) ?_))
  refine (HK.out.write F u HF.out n x HX.out _).mono ?_
  rintro e w6 ⟨rfl, b6⟩
  have A7 := kept_on A6 b6
  have P7 := kept_on hp1 b6
  have Q7 := kept_on hp2 b6
  have B7 : Hid _ := below_step B6.out b6
  clear b6 A6 hp1 hp2 B6
  generalize writeF F n x = G1 at *
  generalize writeE n = e1 at *
  go_wp2_with (first | (refine wpList_fill rfl 27 (.tmp 25) (.tmp 70) rfl rfl (regs57 _ _) rfl 27 _ (by rw [regs57_size]; exact info57) (by rw [zero57, regs57_size, regs57_size]) (regs57_one _ _) ?_))
  intro w7 R8 b7
  have A8 := kept_on A7 b7
  have P8 := kept_on P7 b7
  have Q8 := kept_on Q7 b7
  have B8 : Hid _ := below_step B7.out b7
  generalize w6.heap.size = q1 at *
  clear b7 A7 P7 Q7 B7
  go_wp2_with (first | (refine wpList_row (by rfl) 27 (.tmp 17) rfl _ rfl _ _ _ A8 HS.out rfl (by rw [regs57_size]; exact info57) ?_))
  refine (HK.out.write F u HF.out m x HX.out _).mono ?_
  rintro e w8 ⟨rfl, b8⟩
  have A9 := kept_on A8 b8
  have P9 := kept_on P8 b8
  have Q9 := kept_on Q8 b8
  have R9 := kept_on R8 b8
  have B9 : Hid _ := below_step B8.out b8
  clear b8 A8 P8 Q8 R8 B8
  generalize writeF F m x = G2 at *
  generalize writeE m = e2 at *
  go_wp2_with (first | (refine wpList_fill rfl 27 (.tmp 27) (.tmp 77) rfl rfl (regs57 _ _) rfl 27 _ (by rw [regs57_size]; exact info57) (by rw [zero57, regs57_size, regs57_size]) (regs57_one _ _) ?_))
  intro w9 S10 b9
  have A10 := kept_on A9 b9
  have P10 := kept_on P9 b9
  have Q10 := kept_on Q9 b9
  have R10 := kept_on R9 b9
  have B10 : Hid _ := below_step B9.out b9
  generalize w8.heap.size = q2 at *
  clear b9 A9 P9 Q9 R9 B9
  go_wp2_with fail
  refine wp_region_mix [⟨8, 29, 39, 10, 82, row58 (fun _ => 0) false 0, row58 G1 u e1⟩, ⟨9, 30, 39, 11, 86, row58 (fun _ => 0) false 0, row58 G2 u e2⟩]
    [.agg (regs57 F u), .int .i64 n, .int .u32 x, .agg (row58 G1 u e1), .agg (regs57 F u), .int .i64 m, .int .u32 x, .agg (row58 G2 u e2), undef, undef, undef, undef]
    hmo (by kernel_rfl) ?_ ?_ ?_ ?_ ?_
  · intro r hr
    simp only [List.mem_cons, List.not_mem_nil, or_false] at hr
    rcases hr with rfl | rfl
    · exact (by decide : 29 < 158)
    · exact (by decide : 30 < 158)
  · generalize hl : lay _ _ _ = af
    have v17 : af.eval (.tmp 17) = .pointer (some ⟨r, 0, none⟩) := by rw [← hl]; kernel_rfl
    have e2' : af.tmps[2]?.getD undef = .int .i64 n := by rw [← hl]; kernel_rfl
    have e4 : af.tmps[4]?.getD undef = .int .u32 x := by rw [← hl]; kernel_rfl
    have e18 : af.tmps[18]?.getD undef = .int .i64 m := by rw [← hl]; kernel_rfl
    have e79 : af.tmps[79]?.getD undef = .agg (regs57 F u) := by rw [← hl]; kernel_rfl
    have e80 : af.tmps[80]?.getD undef = .int .i64 n := by rw [← hl]; kernel_rfl
    have e81 : af.tmps[81]?.getD undef = .int .u32 x := by rw [← hl]; kernel_rfl
    have e83 : af.tmps[83]?.getD undef = .agg (regs57 F u) := by rw [← hl]; kernel_rfl
    have e84 : af.tmps[84]?.getD undef = .int .i64 m := by rw [← hl]; kernel_rfl
    have e85 : af.tmps[85]?.getD undef = .int .u32 x := by rw [← hl]; kernel_rfl
    clear hl
    refine And.intro (fun w' hw => quiet_row 27 (.tmp 17) rfl _ v17 _ _ _ (kept_on A10 hw) HS.out rfl (by rw [regs57_size]; exact info57)) ?_
    refine And.intro (fun w' hw => quiet_run (by simp [execOp, go_sem, e2'])) ?_
    refine And.intro (fun w' hw => quiet_run (by simp [execOp, go_sem, e4])) ?_
    refine And.intro (fun w' hw => quiet_enter 11 #[.agg (regs57 F u), .int .i64 n, .int .u32 x] (by simp [go_sem, e79, e80, e81]) (C3.out _)) ?_
    refine And.intro (fun w' hw => quiet_row 27 (.tmp 17) rfl _ v17 _ _ _ (kept_on A10 hw) HS.out rfl (by rw [regs57_size]; exact info57)) ?_
    refine And.intro (fun w' hw => quiet_run (by simp [execOp, go_sem, e18])) ?_
    refine And.intro (fun w' hw => quiet_run (by simp [execOp, go_sem, e4])) ?_
    refine And.intro (fun w' hw => quiet_enter 11 #[.agg (regs57 F u), .int .i64 m, .int .u32 x] (by simp [go_sem, e83, e84, e85]) (C4.out _)) ?_
    exact ⟨True.intro, True.intro, True.intro, True.intro, True.intro⟩
  · intro r hr
    simp only [List.mem_cons, List.not_mem_nil, or_false] at hr
    rcases hr with rfl | rfl <;> exact wrote_alloc
  · intro r hr
    simp only [List.mem_cons, List.not_mem_nil, or_false] at hr
    generalize hl : lay _ _ _ = af
    have e82 : af.eval (.tmp 82) = .agg (row58 G1 u e1) := by rw [← hl]; kernel_rfl
    have e86 : af.eval (.tmp 86) = .agg (row58 G2 u e2) := by rw [← hl]; kernel_rfl
    clear hl
    rcases hr with rfl | rfl
    · intro w' b' hb
      rw [e82]
      exact turned_row _ _ _ _ (by rw [row58_size]; exact info58) (by rw [row58_size, row58_size]) (row58_one _ _ _) b' hb
    · intro w' b' hb
      rw [e86]
      exact turned_row _ _ _ _ (by rw [row58_size]; exact info58) (by rw [row58_size, row58_size]) (row58_one _ _ _) b' hb
  intro β2 W0 hW hbl _
  have hs1 := (hbl _ (List.mem_cons_self)).2.2
  have hs2 := (hbl _ (List.mem_cons_of_mem _ List.mem_cons_self)).2.2
  simp only at hs1 hs2
  simp [putAl, lay, Act.put]
  generalize β2 29 = s1 at *
  generalize β2 30 = s2 at *
  have I0 : Hid (AllSt w F G1 G2 u N1 E1 N2 E2 e1 e2 r p1 p2 q1 q2 s1 s2 W0) := ⟨kept_on A10 hW, kept_on P10 hW, kept_on Q10 hW, kept_on R10 hW, kept_on S10 hW, hs1, hs2, below_step B10.out hW⟩
  clear A10 P10 Q10 R10 S10 hs1 hs2 hbl hW B10 C3 C4
  have CT : Hid _ := fun w => HK.out.trap F u HF.out x y HX.out HY.out w
  have CU : Hid _ := fun w => rTrap F u x y HF.out w
  have DT : Hid _ := fun w => HK.out.ret F u HF.out w
  have DU : Hid _ := fun w => rRet F u HF.out w
  clear HK HF HX HY
  generalize trapF F u x y = H1 at *
  generalize retF F = H2 at *
  generalize retU F = uu at *
  have QF := eq57 F u
  have Q1 := eq57 G1 u
  have Q2 := eq57 G2 u
  have Q3 := eq57 H1 false
  have Q4 := eq57 H2 uu
  go_wp2_with fail
  refine wp_region_sched (fun w' => AllSt w F G1 G2 u N1 E1 N2 E2 e1 e2 r p1 p2 q1 q2 s1 s2 w') [0, 1, 2, 3, 4, 5, 7, 8, 6, 9, 10, 11, 12, 13, 14, 15, 16, 17, 18, 20, 21, 19, 22, 23, 24, 25, 26, 27, 28, 29, 30, 31, 33, 34, 32, 35, 36, 37, 38, 39, 40, 41, 42, 43, 44, 46, 47, 45, 48, 49, 50, 51, 52, 53, 55, 56, 57, 54, 58, 59, 60, 61, 62, 64, 63, 65, 66, 67, 68, 69, 70, 71] _ hmo (by kernel_rfl) rfl (I0.out.on ((Below.refl _ _).drew)) ?_
  have IS : Hid _ := I0.out.on ((Below.refl _ _).drew)
  clear I0
  generalize W0.drew = W at *
  refine sched_take ?_ (some 87) rfl rfl (by rfl) ?_ ?_
  rotate_left
  · intro w' hSw
    go_simp
    try with_reducible rfl
  simp only [Act.put, List.setIfInBounds_toArray, List.set_cons_zero, List.set_cons_succ]
  refine sched_take ?_ (some 88) rfl rfl (by rfl) ?_ ?_
  rotate_left
  · intro w' hSw
    go_simp
    try with_reducible rfl
  simp only [Act.put, List.setIfInBounds_toArray, List.set_cons_zero, List.set_cons_succ]
  refine sched_take ?_ (some 89) rfl rfl (by rfl) ?_ ?_
  rotate_left
  · intro w' hSw
    have c := (cells_of hSw.p1).1 0 _ rfl
    go_simp
    try with_reducible rfl
  simp only [Act.put, List.setIfInBounds_toArray, List.set_cons_zero, List.set_cons_succ]
  refine sched_take ?_ (some 90) rfl rfl (by rfl) ?_ ?_
  rotate_left
  · intro w' hSw
    go_simp
    try with_reducible rfl
  simp only [Act.put, List.setIfInBounds_toArray, List.set_cons_zero, List.set_cons_succ]
  refine sched_take ?_ (some 91) rfl rfl (by rfl) ?_ ?_
  rotate_left
  · intro w' hSw
    go_simp
    try with_reducible rfl
  simp only [Act.put, List.setIfInBounds_toArray, List.set_cons_zero, List.set_cons_succ]
  refine sched_take ?_ (some 92) rfl rfl (by rfl) ?_ ?_
  rotate_left
  · intro w' hSw
    go_simp
    try with_reducible rfl
  simp only [Act.put, List.setIfInBounds_toArray, List.set_cons_zero, List.set_cons_succ]
  refine sched_take ?_ (some 94) rfl rfl (by rfl) ?_ ?_
  rotate_left
  · intro w' hSw
    go_simp
    try with_reducible rfl
  simp only [Act.put, List.setIfInBounds_toArray, List.set_cons_zero, List.set_cons_succ]
  refine sched_take ?_ (some 95) rfl rfl (by rfl) ?_ ?_
  rotate_left
  · intro w' hSw
    have c := (cells_of hSw.p1).1 1 _ rfl
    go_simp
    try with_reducible rfl
  simp only [Act.put, List.setIfInBounds_toArray, List.set_cons_zero, List.set_cons_succ]
  refine sched_call 12 #[.int .i64 E1] (some 93) rfl rfl (by rfl) (by kernel_rfl) ?_
  refine (zErr _ _).mono ?_
  rintro e w' ⟨rfl, hw'⟩
  rw [hw']
  clear hw' w'
  refine ⟨_, rfl, IS.out, ?_⟩
  simp only [Act.put, List.setIfInBounds_toArray, List.set_cons_zero, List.set_cons_succ]
  refine sched_take ?_ (some 96) rfl rfl (by rfl) ?_ ?_
  rotate_left
  · intro w' hSw
    go_simp
    try with_reducible rfl
  simp only [Act.put, List.setIfInBounds_toArray, List.set_cons_zero, List.set_cons_succ]
  refine sched_take ?_ (some 97) rfl rfl (by rfl) ?_ ?_
  rotate_left
  · intro w' hSw
    go_simp
    try with_reducible rfl
  simp only [Act.put, List.setIfInBounds_toArray, List.set_cons_zero, List.set_cons_succ]
  refine sched_take ?_ (some 98) rfl rfl (by rfl) ?_ ?_
  rotate_left
  · intro w' hSw
    go_simp
    try with_reducible rfl
  simp only [Act.put, List.setIfInBounds_toArray, List.set_cons_zero, List.set_cons_succ]
  refine sched_take ?_ (some 99) rfl rfl (by rfl) ?_ ?_
  rotate_left
  · intro w' hSw
    go_simp
    try with_reducible rfl
  simp only [Act.put, List.setIfInBounds_toArray, List.set_cons_zero, List.set_cons_succ]
  refine sched_take ?_ (some 100) rfl rfl (by rfl) ?_ ?_
  rotate_left
  · intro w' hSw
    go_simp
    try with_reducible rfl
  simp only [Act.put, List.setIfInBounds_toArray, List.set_cons_zero, List.set_cons_succ]
  refine sched_take ?_ (some 101) rfl rfl (by rfl) ?_ ?_
  rotate_left
  · intro w' hSw
    have c := (cells_of hSw.p2).1 0 _ rfl
    go_simp
    try with_reducible rfl
  simp only [Act.put, List.setIfInBounds_toArray, List.set_cons_zero, List.set_cons_succ]
  refine sched_take ?_ (some 102) rfl rfl (by rfl) ?_ ?_
  rotate_left
  · intro w' hSw
    go_simp
    try with_reducible rfl
  simp only [Act.put, List.setIfInBounds_toArray, List.set_cons_zero, List.set_cons_succ]
  refine sched_take ?_ (some 103) rfl rfl (by rfl) ?_ ?_
  rotate_left
  · intro w' hSw
    go_simp
    try with_reducible rfl
  simp only [Act.put, List.setIfInBounds_toArray, List.set_cons_zero, List.set_cons_succ]
  refine sched_take ?_ (some 104) rfl rfl (by rfl) ?_ ?_
  rotate_left
  · intro w' hSw
    go_simp
    try with_reducible rfl
  simp only [Act.put, List.setIfInBounds_toArray, List.set_cons_zero, List.set_cons_succ]
  refine sched_take ?_ (some 105) rfl rfl (by rfl) ?_ ?_
  rotate_left
  · intro w' hSw
    go_simp
    try with_reducible rfl
  simp only [Act.put, List.setIfInBounds_toArray, List.set_cons_zero, List.set_cons_succ]
  refine sched_take ?_ (some 107) rfl rfl (by rfl) ?_ ?_
  rotate_left
  · intro w' hSw
    go_simp
    try with_reducible rfl
  simp only [Act.put, List.setIfInBounds_toArray, List.set_cons_zero, List.set_cons_succ]
  refine sched_take ?_ (some 108) rfl rfl (by rfl) ?_ ?_
  rotate_left
  · intro w' hSw
    have c := (cells_of hSw.p2).1 1 _ rfl
    go_simp
    try with_reducible rfl
  simp only [Act.put, List.setIfInBounds_toArray, List.set_cons_zero, List.set_cons_succ]
  refine sched_call 12 #[.int .i64 E2] (some 106) rfl rfl (by rfl) (by kernel_rfl) ?_
  refine (zErr _ _).mono ?_
  rintro e w' ⟨rfl, hw'⟩
  rw [hw']
  clear hw' w'
  refine ⟨_, rfl, IS.out, ?_⟩
  simp only [Act.put, List.setIfInBounds_toArray, List.set_cons_zero, List.set_cons_succ]
  refine sched_take ?_ (some 109) rfl rfl (by rfl) ?_ ?_
  rotate_left
  · intro w' hSw
    go_simp
    try with_reducible rfl
  simp only [Act.put, List.setIfInBounds_toArray, List.set_cons_zero, List.set_cons_succ]
  refine sched_take ?_ (some 110) rfl rfl (by rfl) ?_ ?_
  rotate_left
  · intro w' hSw
    go_simp
    try with_reducible rfl
  simp only [Act.put, List.setIfInBounds_toArray, List.set_cons_zero, List.set_cons_succ]
  refine sched_take ?_ (some 111) rfl rfl (by rfl) ?_ ?_
  rotate_left
  · intro w' hSw
    go_simp
    try with_reducible rfl
  simp only [Act.put, List.setIfInBounds_toArray, List.set_cons_zero, List.set_cons_succ]
  refine sched_row (some 112) rfl (by rfl) 27 (.tmp 25) rfl _ rfl _ _ _ _ (fun w' h => h.q1) HS.out rfl (by rw [regs57_size]; exact info57) ?_
  simp only [Act.put, List.setIfInBounds_toArray, List.set_cons_zero, List.set_cons_succ]
  refine sched_take ?_ (some 113) rfl rfl (by rfl) ?_ ?_
  rotate_left
  · intro w' hSw
    go_simp
    try with_reducible rfl
  simp only [Act.put, List.setIfInBounds_toArray, List.set_cons_zero, List.set_cons_succ]
  refine sched_mids (some 114) rfl (by rfl) 27 (.tmp 113) rfl _ _ rfl (regs57 G1 u) _ (fun w' h => row58_range h.s1) HS.out rfl (by rw [regs57_size]; exact info57) ?_
  simp only [Act.put, List.setIfInBounds_toArray, List.set_cons_zero, List.set_cons_succ]
  refine sched_take ?_ (some 115) rfl rfl (by rfl) ?_ ?_
  rotate_left
  · intro w' hSw
    go_simp
    try with_reducible rfl
  simp only [Act.put, List.setIfInBounds_toArray, List.set_cons_zero, List.set_cons_succ]
  refine sched_take ?_ (some 116) rfl rfl (by rfl) ?_ ?_
  rotate_left
  · intro w' hSw
    go_simp
    try with_reducible rfl
  simp only [Act.put, List.setIfInBounds_toArray, List.set_cons_zero, List.set_cons_succ]
  refine sched_take ?_ (some 117) rfl rfl (by rfl) ?_ ?_
  rotate_left
  · intro w' hSw
    go_simp
    try with_reducible rfl
  simp only [Act.put, List.setIfInBounds_toArray, List.set_cons_zero, List.set_cons_succ]
  refine sched_take ?_ (some 118) rfl rfl (by rfl) ?_ ?_
  rotate_left
  · intro w' hSw
    go_simp
    try with_reducible rfl
  simp only [Act.put, List.setIfInBounds_toArray, List.set_cons_zero, List.set_cons_succ]
  refine sched_take ?_ (some 120) rfl rfl (by rfl) ?_ ?_
  rotate_left
  · intro w' hSw
    go_simp
    try with_reducible rfl
  simp only [Act.put, List.setIfInBounds_toArray, List.set_cons_zero, List.set_cons_succ]
  refine sched_take ?_ (some 121) rfl rfl (by rfl) ?_ ?_
  rotate_left
  · intro w' hSw
    have c := row58_last hSw.s1
    go_simp
    try with_reducible rfl
  simp only [Act.put, List.setIfInBounds_toArray, List.set_cons_zero, List.set_cons_succ]
  refine sched_call 12 #[.int .i64 e1] (some 119) rfl rfl (by rfl) (by kernel_rfl) ?_
  refine (zErr _ _).mono ?_
  rintro e w' ⟨rfl, hw'⟩
  rw [hw']
  clear hw' w'
  refine ⟨_, rfl, IS.out, ?_⟩
  simp only [Act.put, List.setIfInBounds_toArray, List.set_cons_zero, List.set_cons_succ]
  refine sched_take ?_ (some 122) rfl rfl (by rfl) ?_ ?_
  rotate_left
  · intro w' hSw
    go_simp
    try with_reducible rfl
  simp only [Act.put, List.setIfInBounds_toArray, List.set_cons_zero, List.set_cons_succ]
  refine sched_take ?_ (some 123) rfl rfl (by rfl) ?_ ?_
  rotate_left
  · intro w' hSw
    go_simp
    try with_reducible rfl
  simp only [Act.put, List.setIfInBounds_toArray, List.set_cons_zero, List.set_cons_succ]
  refine sched_take ?_ (some 124) rfl rfl (by rfl) ?_ ?_
  rotate_left
  · intro w' hSw
    go_simp
    try with_reducible rfl
  simp only [Act.put, List.setIfInBounds_toArray, List.set_cons_zero, List.set_cons_succ]
  refine sched_row (some 125) rfl (by rfl) 27 (.tmp 27) rfl _ rfl _ _ _ _ (fun w' h => h.q2) HS.out rfl (by rw [regs57_size]; exact info57) ?_
  simp only [Act.put, List.setIfInBounds_toArray, List.set_cons_zero, List.set_cons_succ]
  refine sched_take ?_ (some 126) rfl rfl (by rfl) ?_ ?_
  rotate_left
  · intro w' hSw
    go_simp
    try with_reducible rfl
  simp only [Act.put, List.setIfInBounds_toArray, List.set_cons_zero, List.set_cons_succ]
  refine sched_mids (some 127) rfl (by rfl) 27 (.tmp 126) rfl _ _ rfl (regs57 G2 u) _ (fun w' h => row58_range h.s2) HS.out rfl (by rw [regs57_size]; exact info57) ?_
  simp only [Act.put, List.setIfInBounds_toArray, List.set_cons_zero, List.set_cons_succ]
  refine sched_take ?_ (some 128) rfl rfl (by rfl) ?_ ?_
  rotate_left
  · intro w' hSw
    go_simp
    try with_reducible rfl
  simp only [Act.put, List.setIfInBounds_toArray, List.set_cons_zero, List.set_cons_succ]
  refine sched_take ?_ (some 129) rfl rfl (by rfl) ?_ ?_
  rotate_left
  · intro w' hSw
    go_simp
    try with_reducible rfl
  simp only [Act.put, List.setIfInBounds_toArray, List.set_cons_zero, List.set_cons_succ]
  refine sched_take ?_ (some 130) rfl rfl (by rfl) ?_ ?_
  rotate_left
  · intro w' hSw
    go_simp
    try with_reducible rfl
  simp only [Act.put, List.setIfInBounds_toArray, List.set_cons_zero, List.set_cons_succ]
  refine sched_take ?_ (some 131) rfl rfl (by rfl) ?_ ?_
  rotate_left
  · intro w' hSw
    go_simp
    try with_reducible rfl
  simp only [Act.put, List.setIfInBounds_toArray, List.set_cons_zero, List.set_cons_succ]
  refine sched_take ?_ (some 133) rfl rfl (by rfl) ?_ ?_
  rotate_left
  · intro w' hSw
    go_simp
    try with_reducible rfl
  simp only [Act.put, List.setIfInBounds_toArray, List.set_cons_zero, List.set_cons_succ]
  refine sched_take ?_ (some 134) rfl rfl (by rfl) ?_ ?_
  rotate_left
  · intro w' hSw
    have c := row58_last hSw.s2
    go_simp
    try with_reducible rfl
  simp only [Act.put, List.setIfInBounds_toArray, List.set_cons_zero, List.set_cons_succ]
  refine sched_call 12 #[.int .i64 e2] (some 132) rfl rfl (by rfl) (by kernel_rfl) ?_
  refine (zErr _ _).mono ?_
  rintro e w' ⟨rfl, hw'⟩
  rw [hw']
  clear hw' w'
  refine ⟨_, rfl, IS.out, ?_⟩
  simp only [Act.put, List.setIfInBounds_toArray, List.set_cons_zero, List.set_cons_succ]
  refine sched_take ?_ (some 135) rfl rfl (by rfl) ?_ ?_
  rotate_left
  · intro w' hSw
    go_simp
    try with_reducible rfl
  simp only [Act.put, List.setIfInBounds_toArray, List.set_cons_zero, List.set_cons_succ]
  refine sched_take ?_ (some 136) rfl rfl (by rfl) ?_ ?_
  rotate_left
  · intro w' hSw
    go_simp
    try with_reducible rfl
  simp only [Act.put, List.setIfInBounds_toArray, List.set_cons_zero, List.set_cons_succ]
  refine sched_take ?_ (some 137) rfl rfl (by rfl) ?_ ?_
  rotate_left
  · intro w' hSw
    go_simp
    try with_reducible rfl
  simp only [Act.put, List.setIfInBounds_toArray, List.set_cons_zero, List.set_cons_succ]
  refine sched_row (some 138) rfl (by rfl) 27 (.tmp 17) rfl _ rfl _ _ _ _ (fun w' h => h.r) HS.out rfl (by rw [regs57_size]; exact info57) ?_
  simp only [Act.put, List.setIfInBounds_toArray, List.set_cons_zero, List.set_cons_succ]
  refine sched_take ?_ (some 139) rfl rfl (by rfl) ?_ ?_
  rotate_left
  · intro w' hSw
    go_simp
    try with_reducible rfl
  simp only [Act.put, List.setIfInBounds_toArray, List.set_cons_zero, List.set_cons_succ]
  refine sched_take ?_ (some 140) rfl rfl (by rfl) ?_ ?_
  rotate_left
  · intro w' hSw
    go_simp
    try with_reducible rfl
  simp only [Act.put, List.setIfInBounds_toArray, List.set_cons_zero, List.set_cons_succ]
  refine sched_row (some 142) rfl (by rfl) 27 (.tmp 17) rfl _ rfl _ _ _ _ (fun w' h => h.r) HS.out rfl (by rw [regs57_size]; exact info57) ?_
  simp only [Act.put, List.setIfInBounds_toArray, List.set_cons_zero, List.set_cons_succ]
  refine sched_take ?_ (some 143) rfl rfl (by rfl) ?_ ?_
  rotate_left
  · intro w' hSw
    go_simp
    try with_reducible rfl
  simp only [Act.put, List.setIfInBounds_toArray, List.set_cons_zero, List.set_cons_succ]
  refine sched_take ?_ (some 144) rfl rfl (by rfl) ?_ ?_
  rotate_left
  · intro w' hSw
    go_simp
    try with_reducible rfl
  simp only [Act.put, List.setIfInBounds_toArray, List.set_cons_zero, List.set_cons_succ]
  refine sched_call 13 #[.agg (regs57 F u), .int .u32 x, .int .u32 y] (some 141) rfl rfl (by rfl) (by kernel_rfl) ?_
  refine (CT.out _).mono ?_
  rintro e wn ⟨rfl, bn⟩
  have IN : Hid _ := IS.out.on bn
  clear IS bn
  have IS : Hid _ := IN
  clear IN
  refine ⟨_, rfl, IS.out, ?_⟩
  simp only [Act.put, List.setIfInBounds_toArray, List.set_cons_zero, List.set_cons_succ]
  refine sched_call 14 #[.agg (regs57 F u), .int .u32 x, .int .u32 y] (some 145) rfl rfl (by rfl) (by kernel_rfl) ?_
  refine (CU.out _).mono ?_
  rintro e wn ⟨rfl, bn⟩
  have IN : Hid _ := IS.out.on bn
  clear IS bn
  have IS : Hid _ := IN
  clear IN
  refine ⟨_, rfl, IS.out, ?_⟩
  simp only [Act.put, List.setIfInBounds_toArray, List.set_cons_zero, List.set_cons_succ]
  refine sched_take ?_ (some 146) rfl rfl (by rfl) ?_ ?_
  rotate_left
  · intro w' hSw
    go_simp
    try with_reducible rfl
  simp only [Act.put, List.setIfInBounds_toArray, List.set_cons_zero, List.set_cons_succ]
  refine sched_take ?_ (some 147) rfl rfl (by rfl) ?_ ?_
  rotate_left
  · intro w' hSw
    go_simp
    try with_reducible rfl
  simp only [Act.put, List.setIfInBounds_toArray, List.set_cons_zero, List.set_cons_succ]
  refine sched_take ?_ (some 148) rfl rfl (by rfl) ?_ ?_
  rotate_left
  · intro w' hSw
    go_simp
    try with_reducible rfl
  simp only [Act.put, List.setIfInBounds_toArray, List.set_cons_zero, List.set_cons_succ]
  refine sched_row (some 149) rfl (by rfl) 27 (.tmp 17) rfl _ rfl _ _ _ _ (fun w' h => h.r) HS.out rfl (by rw [regs57_size]; exact info57) ?_
  simp only [Act.put, List.setIfInBounds_toArray, List.set_cons_zero, List.set_cons_succ]
  refine sched_row (some 151) rfl (by rfl) 27 (.tmp 17) rfl _ rfl _ _ _ _ (fun w' h => h.r) HS.out rfl (by rw [regs57_size]; exact info57) ?_
  simp only [Act.put, List.setIfInBounds_toArray, List.set_cons_zero, List.set_cons_succ]
  refine sched_call 15 #[.agg (regs57 F u)] (some 150) rfl rfl (by rfl) (by kernel_rfl) ?_
  refine (DT.out _).mono ?_
  rintro e wn ⟨rfl, bn⟩
  have IN : Hid _ := IS.out.on bn
  clear IS bn
  have IS : Hid _ := IN
  clear IN
  refine ⟨_, rfl, IS.out, ?_⟩
  simp only [Act.put, List.setIfInBounds_toArray, List.set_cons_zero, List.set_cons_succ]
  refine sched_call 16 #[.agg (regs57 F u)] (some 152) rfl rfl (by rfl) (by kernel_rfl) ?_
  refine (DU.out _).mono ?_
  rintro e wn ⟨rfl, bn⟩
  have IN : Hid _ := IS.out.on bn
  clear IS bn
  have IS : Hid _ := IN
  clear IN
  refine ⟨_, rfl, IS.out, ?_⟩
  simp only [Act.put, List.setIfInBounds_toArray, List.set_cons_zero, List.set_cons_succ]
  refine sched_take ?_ (some 153) rfl rfl (by rfl) ?_ ?_
  rotate_left
  · intro w' hSw
    go_simp
    try with_reducible rfl
  simp only [Act.put, List.setIfInBounds_toArray, List.set_cons_zero, List.set_cons_succ]
  refine sched_take ?_ (some 154) rfl rfl (by rfl) ?_ ?_
  rotate_left
  · intro w' hSw
    go_simp
    try with_reducible rfl
  simp only [Act.put, List.setIfInBounds_toArray, List.set_cons_zero, List.set_cons_succ]
  refine sched_take ?_ (some 155) rfl rfl (by rfl) ?_ ?_
  rotate_left
  · intro w' hSw
    go_simp
    try with_reducible rfl
  simp only [Act.put, List.setIfInBounds_toArray, List.set_cons_zero, List.set_cons_succ]
  refine sched_call 17 #[] (some 156) rfl rfl (by rfl) (by kernel_rfl) ?_
  refine (CW.out _).mono ?_
  rintro e wn ⟨rfl, bn⟩
  have IN : Hid _ := IS.out.on bn
  clear IS bn
  have IS : Hid _ := IN
  clear IN
  refine ⟨_, rfl, IS.out, ?_⟩
  simp only [Act.put, List.setIfInBounds_toArray, List.set_cons_zero, List.set_cons_succ]
  refine sched_take ?_ (some 157) rfl rfl (by rfl) ?_ ?_
  rotate_left
  · intro w' hSw
    go_simp
    try with_reducible rfl
  simp only [Act.put, List.setIfInBounds_toArray, List.set_cons_zero, List.set_cons_succ]
  refine sched_take ?_ (some 16) rfl rfl (by rfl) ?_ ?_
  rotate_left
  · intro w' hSw
    go_simp
    try with_reducible rfl
  simp only [Act.put, List.setIfInBounds_toArray, List.set_cons_zero, List.set_cons_succ]
  refine sched_done (NoPanic.normal ?_)
  go_wp2
  go_ret
  exact ⟨rfl, IS.out.below⟩

/-- In the form in which the frame opens what came in. -/
theorem csrAll (K : CsrK) (a : Option Addr) (n cap : Nat) (zs : List Int) (u : Bool) (m wh x y now : Int) (due : Bool) (hwh : 0 ≤ wh) (hx : U32 x) (hy : U32 y) (w : World)
    (hz : (a = none ∧ n = 0 ∧ cap = 0 ∧ zs = []) ∨ ∃ q, a = some q ∧ n ≤ cap ∧ cap ≤ maxLen ∧ zs.length = cap ∧ (∀ i, i < zs.length → w.cell? (q.add i) = some (.int .u32 (zs.getD i 0))) ∧ ∀ z ∈ zs, (Lit.int .u32 z).wf = true) :
    Calls Try.prog 3 #[.slice a n cap, .bool u, .int .i64 m, .int .u8 wh, .int .u32 x, .int .u32 y, .int .i64 now, .bool due] w fun e w' => e = .returned (.bool true) ∧ Below w.heap.size w w' := by
  obtain ⟨c, off, h1, h2, h3, h4⟩ := came_words hz
  exact csrAll_way K a c off n cap zs u m wh x y now due hwh hx hy h4 w h1 h2 h3
end Go.Proofs.Ytmmaoncgfmfbjaa
