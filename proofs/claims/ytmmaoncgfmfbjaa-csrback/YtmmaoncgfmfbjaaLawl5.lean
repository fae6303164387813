/-
  What was written is read: the walks for CTvec and CEpc; the statement, whole.
-/
import Derived.Test.YtmmaoncgfmfbjaaLawk5
namespace Go.Proofs.Ytmmaoncgfmfbjaa
open Go.RowKit

set_option maxRecDepth 100000 in
set_option maxHeartbeats 8000000 in
theorem csrBack_three (K : CsrK) (sa : Option Addr) (b off n' cap : Nat) (l : List Int) (u : Bool) (wh x now : Int) (due : Bool) (h0 : 0 ≤ wh) (h255 : wh ≤ 255) (hx : U32 x) (hl : ∀ z ∈ l, U32 z) (w : World) (hm : n' ≤ maxLen) (hsa : 0 < n' → sa = some ⟨b, off, none⟩ ∧ b < w.heap.size) (hc : ∀ i, i < n' → w.cell? ⟨b, off + i, none⟩ = some (.int .u32 (l.getD i 0)))
    (hk : wh % 7 = 3) (g : Nat) (hg : wh / 8 % 16 = g) (i : Nat) (hO : Own 773 i) (hV : keepV 773 x = bits .andNot .u32 x 3) :
    Calls Try.prog 4 #[.slice sa n' cap, .bool u, .int .u8 wh, .int .u32 x, .int .i64 now, .bool due] w fun e w' => e = .returned (.bool true) ∧ Below w.heap.size w w' := by
  have CW : Hid _ := kawake K
  have HK : Hid _ := K
  have HX : Hid _ := hx
  have CR : Hid _ := lregs sa b off n' cap l u w hm hsa hc
  have HF : Hid (∀ i, U32 (regsF l n' i)) := fun i => regsP_u (wat_u hl n') 8 i
  obtain ⟨fs, hfs⟩ := und57
  have HS : Hid _ := hfs
  have hmo : Try.prog.follows .mixedOrders = true := by kernel_rfl
  clear hfs hl hm hsa hc
  generalize regsF l n' = F at *
  have CF : Hid _ := fun w => kreadOf K F u HF.out 773 w
  have HG : Hid (∀ i, U32 (writeF F 773 x i)) := fun i => by rw [hO.wr]; exact set1_u HF.out _ (by rw [hV]; exact bits_u32 _ _ _) i
  have HR : Hid (U32 (readN F 773 0 false)) := by rw [hO.rd]; exact HF.out _
  have HE : Hid (writeE 773 = 0) := hO.e0
  have HE' : Hid (readE 773 = 0) := hO.f0
  have HA : Hid (readN (writeF F 773 x) 773 now due = bits .andNot .u32 x 3) := by show _ = _; rw [hO.again, hV]
  have HP : Hid (∀ j, j < 34 → writeF F 773 x j = F j) := fun j hj => hO.keeps F x j hj
  have T1 : wh.tmod 7 = 3 := by rw [Int.tmod_eq_emod_of_nonneg h0]; exact hk
  have D1 : wh.tdiv 8 = wh / 8 := Int.tdiv_eq_ediv_of_nonneg h0
  have D2 : (wh / 8).tmod 16 = (g : Int) := by rw [Int.tmod_eq_emod_of_nonneg (by omega)]; exact hg
  have g0 : (0 : Int) ≤ (g : Int) := by omega
  have g1 : (g : Int) < 16 := by omega
  have W1 : Hid (wrap64 wh = wh) := wrap64_id (by omega) (by omega)
  have W2 : Hid (wrap64 (wh / 8) = wh / 8) := wrap64_id (by omega) (by omega)
  have W3 : Hid (wrap64 (1984 + (g : Int)) = 1984 + (g : Int)) := wrap64_id (by omega) (by omega)
  clear hO hV hx hk hg K
  generalize hY : bits .andNot .u32 x 3 = Y at *
  have W1 := W1.out
  have W2 := W2.out
  have W3 := W3.out
  go_enter Try.func4, Try.ntmps4
  go_wp2_with fail
  refine Calls.mono CR.out ?_
  rintro e w1 ⟨rfl, b1⟩
  go_wp2_with (first | (refine wpList_fill rfl 27 (.tmp 13) (.tmp 30) rfl rfl (regs57 _ _) rfl 27 _ (by rw [regs57_size]; exact info57) (by rw [zero57, regs57_size, regs57_size]) (regs57_one _ _) ?_))
  intro w2 A2 b2
  have B2 : Hid _ := below_step b1 b2
  generalize w1.heap.size = r at *
  clear b1 b2 CR
  have A3 : Hid (∀ D, (w2.alloc D).heap[r]? = some (.cells (regs57 F u) 27)) := fun D => kept_on A2 ((Below.refl _ _).alloc (Nat.le_refl _) _)
  have B3 : Hid (∀ D, Below w.heap.size w (w2.alloc D)) := fun D => B2.out.alloc B2.out.size _
  go_wp2_with (first | (refine wpList_load_int rfl rfl rfl (alloc_at w2 (.cells (backTab (g : Int)) 3)) (show (backTab (g : Int))[3]? = some (.int .i64 773) from rfl) ?_) | (refine wpList_row (by rfl) 27 (.tmp 13) rfl _ rfl _ _ _ (A3.out _) HS.out rfl (by rw [regs57_size]; exact info57) ?_))
  refine (HK.out.write F u HF.out 773 x HX.out _).mono ?_
  rintro e w3 ⟨rfl, b3⟩
  have A4 := kept_on (A3.out _) b3
  have B4 : Hid _ := below_step (B3.out _) b3
  clear b3 A3 B3 A2 B2
  rw [HE.out]
  go_wp2_with (first | (refine wpList_fill rfl 27 (.tmp 15) (.tmp 46) rfl rfl (regs57 _ _) rfl 27 _ (by rw [regs57_size]; exact info57) (by rw [zero57, regs57_size, regs57_size]) (regs57_one _ _) ?_))
  intro w4 P5 b4
  have A5 := kept_on A4 b4
  have B5 : Hid _ := below_step B4.out b4
  generalize w3.heap.size = p at *
  clear b4 A4 B4
  go_wp2_with (first | (refine wpList_row (by rfl) 27 (.tmp 15) rfl _ rfl _ _ _ P5 HS.out rfl (by rw [regs57_size]; exact info57) ?_))
  refine (HK.out.read (writeF F 773 x) u HG.out 773 now due _).mono ?_
  rintro e w5 ⟨rfl, b5⟩
  rw [HA.out, HE'.out]
  have A6 := kept_on A5 b5
  have P6 := kept_on P5 b5
  have B6 : Hid _ := below_step B5.out b5
  clear b5 A5 P5 B5 HA HE'
  have CB : Hid (∀ w, Calls Try.prog 10 #[.agg (regs57 (writeF F 773 x) u), .int .i64 773, .int .u32 (readN F 773 0 false)] w fun e w' => e = .returned (.tuple #[.agg (regs57 (writeF (writeF F 773 x) 773 (readN F 773 0 false)) u), .int .i64 0]) ∧ Below w.heap.size w w') := fun w => by have := HK.out.write (writeF F 773 x) u HG.out 773 (readN F 773 0 false) HR.out w; rw [HE.out] at this; exact this
  generalize writeF (writeF F 773 x) 773 (readN F 773 0 false) = B at *
  generalize readN F 773 0 false = R at *
  generalize writeF F 773 x = G at *
  clear HG HR HE
  go_wp2_with fail
  refine wp_region_mix [⟨9, 20, 27, 10, 75, regs57 (fun _ => 0) false, regs57 B u⟩]
    [.agg (regs57 G u), .int .i64 773, .agg (regs57 F u), .int .i64 773, .int .u32 R, .tuple #[.agg (regs57 B u), .int .i64 0], .tuple #[.agg (regs57 B u), .int .i64 0], .agg (regs57 B u), .int .i64 0, undef, undef, .int .i64 0]
    hmo (by kernel_rfl) ?_ ?_ ?_ ?_ ?_
  · intro r hr
    simp only [List.mem_cons, List.not_mem_nil, or_false] at hr
    subst hr
    exact (by decide : 20 < 177)
  · generalize hl : lay _ _ _ = af
    have v13 : af.eval (.tmp 13) = .pointer (some ⟨r, 0, none⟩) := by rw [← hl]; kernel_rfl
    have v15 : af.eval (.tmp 15) = .pointer (some ⟨p, 0, none⟩) := by rw [← hl]; kernel_rfl
    have e14 : af.tmps[14]?.getD undef = .int .i64 773 := by rw [← hl]; kernel_rfl
    have e69 : af.tmps[69]?.getD undef = .agg (regs57 G u) := by rw [← hl]; kernel_rfl
    have e70 : af.tmps[70]?.getD undef = .int .i64 773 := by rw [← hl]; kernel_rfl
    have e71 : af.tmps[71]?.getD undef = .agg (regs57 F u) := by rw [← hl]; kernel_rfl
    have e72 : af.tmps[72]?.getD undef = .int .i64 773 := by rw [← hl]; kernel_rfl
    have e73 : af.tmps[73]?.getD undef = .int .u32 R := by rw [← hl]; kernel_rfl
    have e74 : af.tmps[74]?.getD undef = .tuple #[.agg (regs57 B u), .int .i64 0] := by rw [← hl]; kernel_rfl
    have e68 : af.tmps[68]?.getD undef = .tuple #[.agg (regs57 B u), .int .i64 0] := by rw [← hl]; kernel_rfl
    have e76 : af.tmps[76]?.getD undef = .int .i64 0 := by rw [← hl]; kernel_rfl
    clear hl
    refine And.intro (fun w' hw => quiet_row 27 (.tmp 15) rfl _ v15 _ _ _ (kept_on P6 hw) HS.out rfl (by rw [regs57_size]; exact info57)) ?_
    refine And.intro (fun w' hw => quiet_run (by simp [execOp, go_sem, e14])) ?_
    refine And.intro (fun w' hw => quiet_row 27 (.tmp 13) rfl _ v13 _ _ _ (kept_on A6 hw) HS.out rfl (by rw [regs57_size]; exact info57)) ?_
    refine And.intro (fun w' hw => quiet_run (by simp [execOp, go_sem, e14])) ?_
    refine And.intro (fun w' hw => quiet_enter 18 #[.agg (regs57 F u), .int .i64 773] (by simp [go_sem, e71, e72]) (CF.out _)) ?_
    refine And.intro (fun w' hw => quiet_enter 10 #[.agg (regs57 G u), .int .i64 773, .int .u32 R] (by simp [go_sem, e69, e70, e73]) (CB.out _)) ?_
    refine And.intro (fun w' hw => quiet_run (by simp [execOp, go_sem, e74])) ?_
    refine And.intro (fun w' hw => quiet_run (by simp [execOp, go_sem, e68])) ?_
    refine And.intro (fun w' hw => quiet_run (by simp [execOp, go_sem, e68])) ?_
    refine And.intro True.intro (And.intro True.intro ?_)
    exact And.intro (fun w' hw => quiet_run (by simp [execOp, go_sem, e76])) True.intro
  · intro r hr
    simp only [List.mem_cons, List.not_mem_nil, or_false] at hr
    subst hr
    exact regs_alloc
  · intro r hr
    simp only [List.mem_cons, List.not_mem_nil, or_false] at hr
    generalize hl : lay _ _ _ = af
    have e75 : af.eval (.tmp 75) = .agg (regs57 B u) := by rw [← hl]; kernel_rfl
    clear hl
    subst hr
    intro w' b' hb
    rw [e75]
    exact turned_row _ _ _ _ (by rw [regs57_size]; exact info57) (by rw [regs57_size, regs57_size]) (regs57_one _ _) b' hb
  intro β W7 hW hbl _
  have Q7 := (hbl _ (List.mem_cons_self)).2.2
  simp only at Q7
  simp [putAl, lay, Act.put]
  generalize β 20 = q at *
  have A7 := kept_on A6 hW
  have P7 := kept_on P6 hW
  have B7 : Hid _ := below_step B6.out hW
  clear hbl A6 P6 B6 hW CB CF
  go_wp2_with (first | (refine wpList_row (by rfl) 27 (.tmp 13) rfl _ rfl _ _ _ A7 HS.out rfl (by rw [regs57_size]; exact info57) ?_))
  refine (HK.out.write F u HF.out 836 x HX.out _).mono ?_
  rintro e w8 ⟨rfl, b8⟩
  rw [write_836, show writeE 836 = 7 by decide]
  have A8 := kept_on A7 b8
  have P8 := kept_on P7 b8
  have Q8 := kept_on Q7 b8
  have B8 : Hid _ := below_step B7.out b8
  clear b8 A7 P7 Q7 B7
  go_wp2_with (first | (refine wpList_fill rfl 27 (.tmp 22) (.tmp 81) rfl rfl (regs57 _ _) rfl 27 _ (by rw [regs57_size]; exact info57) (by rw [zero57, regs57_size, regs57_size]) (regs57_one _ _) ?_))
  intro w9 _ b9
  have A9 := kept_on A8 b9
  have P9 := kept_on P8 b9
  have Q9 := kept_on Q8 b9
  have B9 : Hid _ := below_step B8.out b9
  generalize w8.heap.size = s0 at *
  clear b9 A8 P8 Q8 B8
  go_wp2_with (first | (refine wpList_row (by rfl) 27 (.tmp 13) rfl _ rfl _ _ _ A9 HS.out rfl (by rw [regs57_size]; exact info57) ?_))
  refine (HK.out.write F u HF.out 3072 x HX.out _).mono ?_
  rintro e w10 ⟨rfl, b10⟩
  rw [write_3072, show writeE 3072 = 7 by decide]
  have A10 := kept_on A9 b10
  have P10 := kept_on P9 b10
  have Q10 := kept_on Q9 b10
  have B10 : Hid _ := below_step B9.out b10
  clear b10 A9 P9 Q9 B9
  go_wp2_with (first | (refine wpList_fill rfl 27 (.tmp 24) (.tmp 87) rfl rfl (regs57 _ _) rfl 27 _ (by rw [regs57_size]; exact info57) (by rw [zero57, regs57_size, regs57_size]) (regs57_one _ _) ?_))
  intro w11 S11 b11
  have A11 := kept_on A10 b11
  have P11 := kept_on P10 b11
  have Q11 := kept_on Q10 b11
  have B11 : Hid _ := below_step B10.out b11
  generalize w10.heap.size = s at *
  clear b11 A10 P10 Q10 B10
  go_wp2_with (first | (refine wpList_row (by rfl) 27 (.tmp 13) rfl _ rfl _ _ _ A11 HS.out rfl (by rw [regs57_size]; exact info57) ?_))
  refine (HK.out.read F u HF.out 3072 now due _).mono ?_
  rintro e w12 ⟨rfl, b12⟩
  rw [show readN F 3072 now due = now % 4294967296 from rfl, show readE 3072 = 0 by decide]
  have IS : Hid (BackIs w F G B u r p q s w12) := ⟨kept_on A11 b12, kept_on P11 b12, kept_on Q11 b12, kept_on S11 b12, below_step B11.out b12⟩
  clear b12 A11 P11 Q11 S11 B11 HK HF HX
  have QF := eq57 F u
  have Q32 := eq32 F
  have p32 : Hid (G 32 = F 32) := HP.out 32 (by decide)
  have Z0 : IntKind.i64.wrap 0 = 0 := by decide
  have V1 : IntKind.u32.wrap now = now % 4294967296 := IntKind.wrap_u32' now
  go_wp2_with fail
  simp only [List.append_eq, List.cons_append, List.nil_append] at *
  refine (zErr _ _).mono ?_
  rintro e w' ⟨rfl, hw'⟩
  rw [hw']
  clear hw' w'
  go_wp2_with (first | (refine seq_at 99 rfl (fun w' => BackIs w F G B u r p q s w') IS.out ?_))
  refine sched_call 12 #[.int .i64 0] (some 99) rfl rfl (by rfl) (by kernel_rfl) ?_
  refine (zErr _ _).mono ?_
  rintro e w' ⟨rfl, hw'⟩
  rw [hw']
  clear hw' w'
  refine ⟨_, rfl, IS.out, ?_⟩
  simp only [Act.put, List.setIfInBounds_toArray, List.set_cons_zero, List.set_cons_succ]
  refine sched_take ?_ (some 100) rfl rfl (by rfl) ?_ ?_
  rotate_left
  · intro w' hSw
    go_simp
    try with_reducible rfl
  simp only [Act.put, List.setIfInBounds_toArray, List.set_cons_zero, List.set_cons_succ]
  refine sched_take ?_ (some 101) rfl rfl (by rfl) ?_ ?_
  rotate_left
  · intro w' hSw
    go_simp
    try with_reducible rfl
  simp only [Act.put, List.setIfInBounds_toArray, List.set_cons_zero, List.set_cons_succ]
  refine sched_call 12 #[.int .i64 0] (some 102) rfl rfl (by rfl) (by kernel_rfl) ?_
  refine (zErr _ _).mono ?_
  rintro e w' ⟨rfl, hw'⟩
  rw [hw']
  clear hw' w'
  refine ⟨_, rfl, IS.out, ?_⟩
  simp only [Act.put, List.setIfInBounds_toArray, List.set_cons_zero, List.set_cons_succ]
  refine sched_take ?_ (some 103) rfl rfl (by rfl) ?_ ?_
  rotate_left
  · intro w' hSw
    go_simp
    try with_reducible rfl
  simp only [Act.put, List.setIfInBounds_toArray, List.set_cons_zero, List.set_cons_succ]
  refine sched_take ?_ (some 104) rfl rfl (by rfl) ?_ ?_
  rotate_left
  · intro w' hSw
    go_simp
    try with_reducible rfl
  simp only [Act.put, List.setIfInBounds_toArray, List.set_cons_zero, List.set_cons_succ]
  refine sched_call 12 #[.int .i64 0] (some 105) rfl rfl (by rfl) (by kernel_rfl) ?_
  refine (zErr _ _).mono ?_
  rintro e w' ⟨rfl, hw'⟩
  rw [hw']
  clear hw' w'
  refine ⟨_, rfl, IS.out, ?_⟩
  simp only [Act.put, List.setIfInBounds_toArray, List.set_cons_zero, List.set_cons_succ]
  refine sched_take ?_ (some 106) rfl rfl (by rfl) ?_ ?_
  rotate_left
  · intro w' hSw
    go_simp
    try with_reducible rfl
  simp only [Act.put, List.setIfInBounds_toArray, List.set_cons_zero, List.set_cons_succ]
  refine sched_take ?_ (some 107) rfl rfl (by rfl) ?_ ?_
  rotate_left
  · intro w' hSw
    go_simp
    try with_reducible rfl
  simp only [Act.put, List.setIfInBounds_toArray, List.set_cons_zero, List.set_cons_succ]
  refine sched_take ?_ (some 108) rfl rfl (by rfl) ?_ ?_
  rotate_left
  · intro w' hSw
    go_simp
    try with_reducible rfl
  simp only [Act.put, List.setIfInBounds_toArray, List.set_cons_zero, List.set_cons_succ]
  refine sched_take ?_ (some 109) rfl rfl (by rfl) ?_ ?_
  rotate_left
  · intro w' hSw
    go_simp
    try with_reducible rfl
  simp only [Act.put, List.setIfInBounds_toArray, List.set_cons_zero, List.set_cons_succ]
  refine sched_take ?_ (some 110) rfl rfl (by rfl) ?_ ?_
  rotate_left
  · intro w' hSw
    go_simp
    try with_reducible rfl
  simp only [Act.put, List.setIfInBounds_toArray, List.set_cons_zero, List.set_cons_succ]
  refine sched_take ?_ (some 111) rfl rfl (by rfl) ?_ ?_
  rotate_left
  · intro w' hSw
    go_simp
    try with_reducible rfl
  simp only [Act.put, List.setIfInBounds_toArray, List.set_cons_zero, List.set_cons_succ]
  refine sched_take ?_ (some 112) rfl rfl (by rfl) ?_ ?_
  rotate_left
  · intro w' hSw
    go_simp
    try with_reducible rfl
  simp only [Act.put, List.setIfInBounds_toArray, List.set_cons_zero, List.set_cons_succ]
  refine sched_take ?_ (some 113) rfl rfl (by rfl) ?_ ?_
  rotate_left
  · intro w' hSw
    go_simp
    try with_reducible rfl
  simp only [Act.put, List.setIfInBounds_toArray, List.set_cons_zero, List.set_cons_succ]
  refine sched_take ?_ (some 114) rfl rfl (by rfl) ?_ ?_
  rotate_left
  · intro w' hSw
    go_simp
    try with_reducible rfl
  simp only [Act.put, List.setIfInBounds_toArray, List.set_cons_zero, List.set_cons_succ]
  refine sched_mids (some 115) rfl (by rfl) 24 (.tmp 114) rfl _ _ rfl (row32 F) _ (fun w' h => regs_range32 h.p (fun j hj => HP.out j (by omega))) und32 rfl (by rw [row32_size]; exact info32) ?_
  simp only [Act.put, List.setIfInBounds_toArray, List.set_cons_zero, List.set_cons_succ]
  refine sched_take ?_ (some 116) rfl rfl (by rfl) ?_ ?_
  rotate_left
  · intro w' hSw
    go_simp
    try with_reducible rfl
  simp only [Act.put, List.setIfInBounds_toArray, List.set_cons_zero, List.set_cons_succ]
  refine sched_mids (some 117) rfl (by rfl) 24 (.tmp 116) rfl _ _ rfl (row32 F) _ (fun w' h => regs_range32 h.r (fun _ _ => rfl)) und32 rfl (by rw [row32_size]; exact info32) ?_
  simp only [Act.put, List.setIfInBounds_toArray, List.set_cons_zero, List.set_cons_succ]
  refine sched_take ?_ (some 118) rfl rfl (by rfl) ?_ ?_
  rotate_left
  · intro w' hSw
    go_simp
    try with_reducible rfl
  simp only [Act.put, List.setIfInBounds_toArray, List.set_cons_zero, List.set_cons_succ]
  refine sched_take ?_ (some 119) rfl rfl (by rfl) ?_ ?_
  rotate_left
  · intro w' hSw
    go_simp
    try with_reducible rfl
  simp only [Act.put, List.setIfInBounds_toArray, List.set_cons_zero, List.set_cons_succ]
  refine sched_take ?_ (some 120) rfl rfl (by rfl) ?_ ?_
  rotate_left
  · intro w' hSw
    go_simp
    try with_reducible rfl
  simp only [Act.put, List.setIfInBounds_toArray, List.set_cons_zero, List.set_cons_succ]
  refine sched_take ?_ (some 121) rfl rfl (by rfl) ?_ ?_
  rotate_left
  · intro w' hSw
    go_simp
    try with_reducible rfl
  simp only [Act.put, List.setIfInBounds_toArray, List.set_cons_zero, List.set_cons_succ]
  refine sched_take ?_ (some 122) rfl rfl (by rfl) ?_ ?_
  rotate_left
  · intro w' hSw
    have c := regs_cell hSw.p 32 (by decide) (by decide) p32.out
    go_simp
    try with_reducible rfl
  simp only [Act.put, List.setIfInBounds_toArray, List.set_cons_zero, List.set_cons_succ]
  refine sched_take ?_ (some 123) rfl rfl (by rfl) ?_ ?_
  rotate_left
  · intro w' hSw
    go_simp
    try with_reducible rfl
  simp only [Act.put, List.setIfInBounds_toArray, List.set_cons_zero, List.set_cons_succ]
  refine sched_take ?_ (some 124) rfl rfl (by rfl) ?_ ?_
  rotate_left
  · intro w' hSw
    have c := regs_cell hSw.r 32 (by decide) (by decide) rfl
    go_simp
    try with_reducible rfl
  simp only [Act.put, List.setIfInBounds_toArray, List.set_cons_zero, List.set_cons_succ]
  refine sched_take ?_ (some 125) rfl rfl (by rfl) ?_ ?_
  rotate_left
  · intro w' hSw
    go_simp
    try with_reducible rfl
  simp only [Act.put, List.setIfInBounds_toArray, List.set_cons_zero, List.set_cons_succ]
  refine sched_take ?_ (some 126) rfl rfl (by rfl) ?_ ?_
  rotate_left
  · intro w' hSw
    go_simp
    try with_reducible rfl
  simp only [Act.put, List.setIfInBounds_toArray, List.set_cons_zero, List.set_cons_succ]
  refine sched_take ?_ (some 127) rfl rfl (by rfl) ?_ ?_
  rotate_left
  · intro w' hSw
    go_simp
    try with_reducible rfl
  simp only [Act.put, List.setIfInBounds_toArray, List.set_cons_zero, List.set_cons_succ]
  refine sched_take ?_ (some 128) rfl rfl (by rfl) ?_ ?_
  rotate_left
  · intro w' hSw
    go_simp
    try with_reducible rfl
  simp only [Act.put, List.setIfInBounds_toArray, List.set_cons_zero, List.set_cons_succ]
  refine sched_take ?_ (some 129) rfl rfl (by rfl) ?_ ?_
  rotate_left
  · intro w' hSw
    have c := regs_user hSw.p
    go_simp
    try with_reducible rfl
  simp only [Act.put, List.setIfInBounds_toArray, List.set_cons_zero, List.set_cons_succ]
  refine sched_take ?_ (some 130) rfl rfl (by rfl) ?_ ?_
  rotate_left
  · intro w' hSw
    go_simp
    try with_reducible rfl
  simp only [Act.put, List.setIfInBounds_toArray, List.set_cons_zero, List.set_cons_succ]
  refine sched_take ?_ (some 131) rfl rfl (by rfl) ?_ ?_
  rotate_left
  · intro w' hSw
    go_simp
    try with_reducible rfl
  simp only [Act.put, List.setIfInBounds_toArray, List.set_cons_zero, List.set_cons_succ]
  refine sched_take ?_ (some 132) rfl rfl (by rfl) ?_ ?_
  rotate_left
  · intro w' hSw
    go_simp
    try with_reducible rfl
  simp only [Act.put, List.setIfInBounds_toArray, List.set_cons_zero, List.set_cons_succ]
  refine sched_take ?_ (some 133) rfl rfl (by rfl) ?_ ?_
  rotate_left
  · intro w' hSw
    go_simp
    try with_reducible rfl
  simp only [Act.put, List.setIfInBounds_toArray, List.set_cons_zero, List.set_cons_succ]
  refine sched_take ?_ (some 134) rfl rfl (by rfl) ?_ ?_
  rotate_left
  · intro w' hSw
    go_simp
    try with_reducible rfl
  simp only [Act.put, List.setIfInBounds_toArray, List.set_cons_zero, List.set_cons_succ]
  refine sched_take ?_ (some 135) rfl rfl (by rfl) ?_ ?_
  rotate_left
  · intro w' hSw
    go_simp
    try with_reducible rfl
  simp only [Act.put, List.setIfInBounds_toArray, List.set_cons_zero, List.set_cons_succ]
  refine sched_take ?_ (some 136) rfl rfl (by rfl) ?_ ?_
  rotate_left
  · intro w' hSw
    go_simp
    try with_reducible rfl
  simp only [Act.put, List.setIfInBounds_toArray, List.set_cons_zero, List.set_cons_succ]
  refine sched_take ?_ (some 137) rfl rfl (by rfl) ?_ ?_
  rotate_left
  · intro w' hSw
    go_simp
    try with_reducible rfl
  simp only [Act.put, List.setIfInBounds_toArray, List.set_cons_zero, List.set_cons_succ]
  refine sched_skip (some 138) rfl (by rfl) ?_
  simp only [Act.put, List.setIfInBounds_toArray, List.set_cons_zero, List.set_cons_succ]
  refine sched_skip (some 139) rfl (by rfl) ?_
  simp only [Act.put, List.setIfInBounds_toArray, List.set_cons_zero, List.set_cons_succ]
  refine sched_skip (some 140) rfl (by rfl) ?_
  simp only [Act.put, List.setIfInBounds_toArray, List.set_cons_zero, List.set_cons_succ]
  refine sched_take ?_ (some 141) rfl rfl (by rfl) ?_ ?_
  rotate_left
  · intro w' hSw
    go_simp
    try with_reducible rfl
  simp only [Act.put, List.setIfInBounds_toArray, List.set_cons_zero, List.set_cons_succ]
  refine sched_take ?_ (some 142) rfl rfl (by rfl) ?_ ?_
  rotate_left
  · intro w' hSw
    go_simp
    try with_reducible rfl
  simp only [Act.put, List.setIfInBounds_toArray, List.set_cons_zero, List.set_cons_succ]
  refine sched_skip (some 143) rfl (by rfl) ?_
  simp only [Act.put, List.setIfInBounds_toArray, List.set_cons_zero, List.set_cons_succ]
  refine sched_skip (some 144) rfl (by rfl) ?_
  simp only [Act.put, List.setIfInBounds_toArray, List.set_cons_zero, List.set_cons_succ]
  refine sched_skip (some 145) rfl (by rfl) ?_
  simp only [Act.put, List.setIfInBounds_toArray, List.set_cons_zero, List.set_cons_succ]
  refine sched_take ?_ (some 146) rfl rfl (by rfl) ?_ ?_
  rotate_left
  · intro w' hSw
    go_simp
    try with_reducible rfl
  simp only [Act.put, List.setIfInBounds_toArray, List.set_cons_zero, List.set_cons_succ]
  refine sched_take ?_ (some 147) rfl rfl (by rfl) ?_ ?_
  rotate_left
  · intro w' hSw
    go_simp
    try with_reducible rfl
  simp only [Act.put, List.setIfInBounds_toArray, List.set_cons_zero, List.set_cons_succ]
  refine sched_skip (some 148) rfl (by rfl) ?_
  simp only [Act.put, List.setIfInBounds_toArray, List.set_cons_zero, List.set_cons_succ]
  refine sched_skip (some 149) rfl (by rfl) ?_
  simp only [Act.put, List.setIfInBounds_toArray, List.set_cons_zero, List.set_cons_succ]
  refine sched_skip (some 150) rfl (by rfl) ?_
  simp only [Act.put, List.setIfInBounds_toArray, List.set_cons_zero, List.set_cons_succ]
  refine sched_take ?_ (some 151) rfl rfl (by rfl) ?_ ?_
  rotate_left
  · intro w' hSw
    go_simp
    try with_reducible rfl
  simp only [Act.put, List.setIfInBounds_toArray, List.set_cons_zero, List.set_cons_succ]
  refine sched_take ?_ (some 152) rfl rfl (by rfl) ?_ ?_
  rotate_left
  · intro w' hSw
    go_simp
    try with_reducible rfl
  simp only [Act.put, List.setIfInBounds_toArray, List.set_cons_zero, List.set_cons_succ]
  refine sched_take ?_ (some 153) rfl rfl (by rfl) ?_ ?_
  rotate_left
  · intro w' hSw
    go_simp
    try with_reducible rfl
  simp only [Act.put, List.setIfInBounds_toArray, List.set_cons_zero, List.set_cons_succ]
  refine sched_take ?_ (some 154) rfl rfl (by rfl) ?_ ?_
  rotate_left
  · intro w' hSw
    go_simp
    try with_reducible rfl
  simp only [Act.put, List.setIfInBounds_toArray, List.set_cons_zero, List.set_cons_succ]
  refine sched_call 12 #[.int .i64 7] (some 155) rfl rfl (by rfl) (by kernel_rfl) ?_
  refine (zErr _ _).mono ?_
  rintro e w' ⟨rfl, hw'⟩
  rw [hw']
  clear hw' w'
  refine ⟨_, rfl, IS.out, ?_⟩
  simp only [Act.put, List.setIfInBounds_toArray, List.set_cons_zero, List.set_cons_succ]
  refine sched_take ?_ (some 156) rfl rfl (by rfl) ?_ ?_
  rotate_left
  · intro w' hSw
    go_simp
    try with_reducible rfl
  simp only [Act.put, List.setIfInBounds_toArray, List.set_cons_zero, List.set_cons_succ]
  refine sched_take ?_ (some 157) rfl rfl (by rfl) ?_ ?_
  rotate_left
  · intro w' hSw
    go_simp
    try with_reducible rfl
  simp only [Act.put, List.setIfInBounds_toArray, List.set_cons_zero, List.set_cons_succ]
  refine sched_take ?_ (some 158) rfl rfl (by rfl) ?_ ?_
  rotate_left
  · intro w' hSw
    go_simp
    try with_reducible rfl
  simp only [Act.put, List.setIfInBounds_toArray, List.set_cons_zero, List.set_cons_succ]
  refine sched_take ?_ (some 159) rfl rfl (by rfl) ?_ ?_
  rotate_left
  · intro w' hSw
    go_simp
    try with_reducible rfl
  simp only [Act.put, List.setIfInBounds_toArray, List.set_cons_zero, List.set_cons_succ]
  refine sched_call 12 #[.int .i64 7] (some 160) rfl rfl (by rfl) (by kernel_rfl) ?_
  refine (zErr _ _).mono ?_
  rintro e w' ⟨rfl, hw'⟩
  rw [hw']
  clear hw' w'
  refine ⟨_, rfl, IS.out, ?_⟩
  simp only [Act.put, List.setIfInBounds_toArray, List.set_cons_zero, List.set_cons_succ]
  refine sched_take ?_ (some 161) rfl rfl (by rfl) ?_ ?_
  rotate_left
  · intro w' hSw
    go_simp
    try with_reducible rfl
  simp only [Act.put, List.setIfInBounds_toArray, List.set_cons_zero, List.set_cons_succ]
  refine sched_take ?_ (some 162) rfl rfl (by rfl) ?_ ?_
  rotate_left
  · intro w' hSw
    go_simp
    try with_reducible rfl
  simp only [Act.put, List.setIfInBounds_toArray, List.set_cons_zero, List.set_cons_succ]
  refine sched_take ?_ (some 163) rfl rfl (by rfl) ?_ ?_
  rotate_left
  · intro w' hSw
    go_simp
    try with_reducible rfl
  simp only [Act.put, List.setIfInBounds_toArray, List.set_cons_zero, List.set_cons_succ]
  refine sched_row (some 164) rfl (by rfl) 27 (.tmp 24) rfl _ rfl _ _ _ _ (fun w' h => h.s) HS.out rfl (by rw [regs57_size]; exact info57) ?_
  simp only [Act.put, List.setIfInBounds_toArray, List.set_cons_zero, List.set_cons_succ]
  refine sched_row (some 165) rfl (by rfl) 27 (.tmp 13) rfl _ rfl _ _ _ _ (fun w' h => h.r) HS.out rfl (by rw [regs57_size]; exact info57) ?_
  simp only [Act.put, List.setIfInBounds_toArray, List.set_cons_zero, List.set_cons_succ]
  refine sched_take ?_ (some 166) rfl rfl (by rfl) ?_ ?_
  rotate_left
  · intro w' hSw
    go_simp
    try with_reducible rfl
  simp only [Act.put, List.setIfInBounds_toArray, List.set_cons_zero, List.set_cons_succ]
  refine sched_take ?_ (some 167) rfl rfl (by rfl) ?_ ?_
  rotate_left
  · intro w' hSw
    go_simp
    try with_reducible rfl
  simp only [Act.put, List.setIfInBounds_toArray, List.set_cons_zero, List.set_cons_succ]
  refine sched_take ?_ (some 168) rfl rfl (by rfl) ?_ ?_
  rotate_left
  · intro w' hSw
    go_simp
    try with_reducible rfl
  simp only [Act.put, List.setIfInBounds_toArray, List.set_cons_zero, List.set_cons_succ]
  refine sched_take ?_ (some 169) rfl rfl (by rfl) ?_ ?_
  rotate_left
  · intro w' hSw
    go_simp
    try with_reducible rfl
  simp only [Act.put, List.setIfInBounds_toArray, List.set_cons_zero, List.set_cons_succ]
  refine sched_take ?_ (some 170) rfl rfl (by rfl) ?_ ?_
  rotate_left
  · intro w' hSw
    go_simp
    try with_reducible rfl
  simp only [Act.put, List.setIfInBounds_toArray, List.set_cons_zero, List.set_cons_succ]
  refine sched_take ?_ (some 171) rfl rfl (by rfl) ?_ ?_
  rotate_left
  · intro w' hSw
    go_simp
    try with_reducible rfl
  simp only [Act.put, List.setIfInBounds_toArray, List.set_cons_zero, List.set_cons_succ]
  refine sched_take ?_ (some 172) rfl rfl (by rfl) ?_ ?_
  rotate_left
  · intro w' hSw
    go_simp
    try with_reducible rfl
  simp only [Act.put, List.setIfInBounds_toArray, List.set_cons_zero, List.set_cons_succ]
  refine sched_take ?_ (some 173) rfl rfl (by rfl) ?_ ?_
  rotate_left
  · intro w' hSw
    go_simp
    try with_reducible rfl
  simp only [Act.put, List.setIfInBounds_toArray, List.set_cons_zero, List.set_cons_succ]
  refine sched_take ?_ (some 174) rfl rfl (by rfl) ?_ ?_
  rotate_left
  · intro w' hSw
    go_simp
    try with_reducible rfl
  simp only [Act.put, List.setIfInBounds_toArray, List.set_cons_zero, List.set_cons_succ]
  refine sched_call 17 #[] (some 175) rfl rfl (by rfl) (by kernel_rfl) ?_
  refine (CW.out _).mono ?_
  rintro e wn ⟨rfl, bn⟩
  have IN : Hid _ := IS.out.on bn
  clear IS bn
  refine ⟨_, rfl, IN.out, ?_⟩
  simp only [Act.put, List.setIfInBounds_toArray, List.set_cons_zero, List.set_cons_succ]
  refine sched_take ?_ (some 176) rfl rfl (by rfl) ?_ ?_
  rotate_left
  · intro w' hSw
    go_simp
    try with_reducible rfl
  simp only [Act.put, List.setIfInBounds_toArray, List.set_cons_zero, List.set_cons_succ]
  refine sched_take ?_ (some 12) rfl rfl (by rfl) ?_ ?_
  rotate_left
  · intro w' hSw
    go_simp
    try with_reducible rfl
  simp only [Act.put, List.setIfInBounds_toArray, List.set_cons_zero, List.set_cons_succ]
  refine sched_done ?_
  go_wp2
  go_ret
  exact ⟨rfl, IN.out.below⟩

set_option maxRecDepth 100000 in
set_option maxHeartbeats 8000000 in
theorem csrBack_four (K : CsrK) (sa : Option Addr) (b off n' cap : Nat) (l : List Int) (u : Bool) (wh x now : Int) (due : Bool) (h0 : 0 ≤ wh) (h255 : wh ≤ 255) (hx : U32 x) (hl : ∀ z ∈ l, U32 z) (w : World) (hm : n' ≤ maxLen) (hsa : 0 < n' → sa = some ⟨b, off, none⟩ ∧ b < w.heap.size) (hc : ∀ i, i < n' → w.cell? ⟨b, off + i, none⟩ = some (.int .u32 (l.getD i 0)))
    (hk : wh % 7 = 4) (g : Nat) (hg : wh / 8 % 16 = g) (i : Nat) (hO : Own 833 i) (hV : keepV 833 x = bits .andNot .u32 x 3) :
    Calls Try.prog 4 #[.slice sa n' cap, .bool u, .int .u8 wh, .int .u32 x, .int .i64 now, .bool due] w fun e w' => e = .returned (.bool true) ∧ Below w.heap.size w w' := by
  have CW : Hid _ := kawake K
  have HK : Hid _ := K
  have HX : Hid _ := hx
  have CR : Hid _ := lregs sa b off n' cap l u w hm hsa hc
  have HF : Hid (∀ i, U32 (regsF l n' i)) := fun i => regsP_u (wat_u hl n') 8 i
  obtain ⟨fs, hfs⟩ := und57
  have HS : Hid _ := hfs
  have hmo : Try.prog.follows .mixedOrders = true := by kernel_rfl
  clear hfs hl hm hsa hc
  generalize regsF l n' = F at *
  have CF : Hid _ := fun w => kreadOf K F u HF.out 833 w
  have HG : Hid (∀ i, U32 (writeF F 833 x i)) := fun i => by rw [hO.wr]; exact set1_u HF.out _ (by rw [hV]; exact bits_u32 _ _ _) i
  have HR : Hid (U32 (readN F 833 0 false)) := by rw [hO.rd]; exact HF.out _
  have HE : Hid (writeE 833 = 0) := hO.e0
  have HE' : Hid (readE 833 = 0) := hO.f0
  have HA : Hid (readN (writeF F 833 x) 833 now due = bits .andNot .u32 x 3) := by show _ = _; rw [hO.again, hV]
  have HP : Hid (∀ j, j < 34 → writeF F 833 x j = F j) := fun j hj => hO.keeps F x j hj
  have T1 : wh.tmod 7 = 4 := by rw [Int.tmod_eq_emod_of_nonneg h0]; exact hk
  have D1 : wh.tdiv 8 = wh / 8 := Int.tdiv_eq_ediv_of_nonneg h0
  have D2 : (wh / 8).tmod 16 = (g : Int) := by rw [Int.tmod_eq_emod_of_nonneg (by omega)]; exact hg
  have g0 : (0 : Int) ≤ (g : Int) := by omega
  have g1 : (g : Int) < 16 := by omega
  have W1 : Hid (wrap64 wh = wh) := wrap64_id (by omega) (by omega)
  have W2 : Hid (wrap64 (wh / 8) = wh / 8) := wrap64_id (by omega) (by omega)
  have W3 : Hid (wrap64 (1984 + (g : Int)) = 1984 + (g : Int)) := wrap64_id (by omega) (by omega)
  clear hO hV hx hk hg K
  generalize hY : bits .andNot .u32 x 3 = Y at *
  have W1 := W1.out
  have W2 := W2.out
  have W3 := W3.out
  go_enter Try.func4, Try.ntmps4
  go_wp2_with fail
  refine Calls.mono CR.out ?_
  rintro e w1 ⟨rfl, b1⟩
  go_wp2_with (first | (refine wpList_fill rfl 27 (.tmp 13) (.tmp 30) rfl rfl (regs57 _ _) rfl 27 _ (by rw [regs57_size]; exact info57) (by rw [zero57, regs57_size, regs57_size]) (regs57_one _ _) ?_))
  intro w2 A2 b2
  have B2 : Hid _ := below_step b1 b2
  generalize w1.heap.size = r at *
  clear b1 b2 CR
  have A3 : Hid (∀ D, (w2.alloc D).heap[r]? = some (.cells (regs57 F u) 27)) := fun D => kept_on A2 ((Below.refl _ _).alloc (Nat.le_refl _) _)
  have B3 : Hid (∀ D, Below w.heap.size w (w2.alloc D)) := fun D => B2.out.alloc B2.out.size _
  go_wp2_with (first | (refine wpList_load_int rfl rfl rfl (alloc_at w2 (.cells (backTab (g : Int)) 3)) (show (backTab (g : Int))[4]? = some (.int .i64 833) from rfl) ?_) | (refine wpList_row (by rfl) 27 (.tmp 13) rfl _ rfl _ _ _ (A3.out _) HS.out rfl (by rw [regs57_size]; exact info57) ?_))
  refine (HK.out.write F u HF.out 833 x HX.out _).mono ?_
  rintro e w3 ⟨rfl, b3⟩
  have A4 := kept_on (A3.out _) b3
  have B4 : Hid _ := below_step (B3.out _) b3
  clear b3 A3 B3 A2 B2
  rw [HE.out]
  go_wp2_with (first | (refine wpList_fill rfl 27 (.tmp 15) (.tmp 46) rfl rfl (regs57 _ _) rfl 27 _ (by rw [regs57_size]; exact info57) (by rw [zero57, regs57_size, regs57_size]) (regs57_one _ _) ?_))
  intro w4 P5 b4
  have A5 := kept_on A4 b4
  have B5 : Hid _ := below_step B4.out b4
  generalize w3.heap.size = p at *
  clear b4 A4 B4
  go_wp2_with (first | (refine wpList_row (by rfl) 27 (.tmp 15) rfl _ rfl _ _ _ P5 HS.out rfl (by rw [regs57_size]; exact info57) ?_))
  refine (HK.out.read (writeF F 833 x) u HG.out 833 now due _).mono ?_
  rintro e w5 ⟨rfl, b5⟩
  rw [HA.out, HE'.out]
  have A6 := kept_on A5 b5
  have P6 := kept_on P5 b5
  have B6 : Hid _ := below_step B5.out b5
  clear b5 A5 P5 B5 HA HE'
  have CB : Hid (∀ w, Calls Try.prog 10 #[.agg (regs57 (writeF F 833 x) u), .int .i64 833, .int .u32 (readN F 833 0 false)] w fun e w' => e = .returned (.tuple #[.agg (regs57 (writeF (writeF F 833 x) 833 (readN F 833 0 false)) u), .int .i64 0]) ∧ Below w.heap.size w w') := fun w => by have := HK.out.write (writeF F 833 x) u HG.out 833 (readN F 833 0 false) HR.out w; rw [HE.out] at this; exact this
  generalize writeF (writeF F 833 x) 833 (readN F 833 0 false) = B at *
  generalize readN F 833 0 false = R at *
  generalize writeF F 833 x = G at *
  clear HG HR HE
  go_wp2_with fail
  refine wp_region_mix [⟨9, 20, 27, 10, 75, regs57 (fun _ => 0) false, regs57 B u⟩]
    [.agg (regs57 G u), .int .i64 833, .agg (regs57 F u), .int .i64 833, .int .u32 R, .tuple #[.agg (regs57 B u), .int .i64 0], .tuple #[.agg (regs57 B u), .int .i64 0], .agg (regs57 B u), .int .i64 0, undef, undef, .int .i64 0]
    hmo (by kernel_rfl) ?_ ?_ ?_ ?_ ?_
  · intro r hr
    simp only [List.mem_cons, List.not_mem_nil, or_false] at hr
    subst hr
    exact (by decide : 20 < 177)
  · generalize hl : lay _ _ _ = af
    have v13 : af.eval (.tmp 13) = .pointer (some ⟨r, 0, none⟩) := by rw [← hl]; kernel_rfl
    have v15 : af.eval (.tmp 15) = .pointer (some ⟨p, 0, none⟩) := by rw [← hl]; kernel_rfl
    have e14 : af.tmps[14]?.getD undef = .int .i64 833 := by rw [← hl]; kernel_rfl
    have e69 : af.tmps[69]?.getD undef = .agg (regs57 G u) := by rw [← hl]; kernel_rfl
    have e70 : af.tmps[70]?.getD undef = .int .i64 833 := by rw [← hl]; kernel_rfl
    have e71 : af.tmps[71]?.getD undef = .agg (regs57 F u) := by rw [← hl]; kernel_rfl
    have e72 : af.tmps[72]?.getD undef = .int .i64 833 := by rw [← hl]; kernel_rfl
    have e73 : af.tmps[73]?.getD undef = .int .u32 R := by rw [← hl]; kernel_rfl
    have e74 : af.tmps[74]?.getD undef = .tuple #[.agg (regs57 B u), .int .i64 0] := by rw [← hl]; kernel_rfl
    have e68 : af.tmps[68]?.getD undef = .tuple #[.agg (regs57 B u), .int .i64 0] := by rw [← hl]; kernel_rfl
    have e76 : af.tmps[76]?.getD undef = .int .i64 0 := by rw [← hl]; kernel_rfl
    clear hl
    refine And.intro (fun w' hw => quiet_row 27 (.tmp 15) rfl _ v15 _ _ _ (kept_on P6 hw) HS.out rfl (by rw [regs57_size]; exact info57)) ?_
    refine And.intro (fun w' hw => quiet_run (by simp [execOp, go_sem, e14])) ?_
    refine And.intro (fun w' hw => quiet_row 27 (.tmp 13) rfl _ v13 _ _ _ (kept_on A6 hw) HS.out rfl (by rw [regs57_size]; exact info57)) ?_
    refine And.intro (fun w' hw => quiet_run (by simp [execOp, go_sem, e14])) ?_
    refine And.intro (fun w' hw => quiet_enter 18 #[.agg (regs57 F u), .int .i64 833] (by simp [go_sem, e71, e72]) (CF.out _)) ?_
    refine And.intro (fun w' hw => quiet_enter 10 #[.agg (regs57 G u), .int .i64 833, .int .u32 R] (by simp [go_sem, e69, e70, e73]) (CB.out _)) ?_
    refine And.intro (fun w' hw => quiet_run (by simp [execOp, go_sem, e74])) ?_
    refine And.intro (fun w' hw => quiet_run (by simp [execOp, go_sem, e68])) ?_
    refine And.intro (fun w' hw => quiet_run (by simp [execOp, go_sem, e68])) ?_
    refine And.intro True.intro (And.intro True.intro ?_)
    exact And.intro (fun w' hw => quiet_run (by simp [execOp, go_sem, e76])) True.intro
  · intro r hr
    simp only [List.mem_cons, List.not_mem_nil, or_false] at hr
    subst hr
    exact regs_alloc
  · intro r hr
    simp only [List.mem_cons, List.not_mem_nil, or_false] at hr
    generalize hl : lay _ _ _ = af
    have e75 : af.eval (.tmp 75) = .agg (regs57 B u) := by rw [← hl]; kernel_rfl
    clear hl
    subst hr
    intro w' b' hb
    rw [e75]
    exact turned_row _ _ _ _ (by rw [regs57_size]; exact info57) (by rw [regs57_size, regs57_size]) (regs57_one _ _) b' hb
  intro β W7 hW hbl _
  have Q7 := (hbl _ (List.mem_cons_self)).2.2
  simp only at Q7
  simp [putAl, lay, Act.put]
  generalize β 20 = q at *
  have A7 := kept_on A6 hW
  have P7 := kept_on P6 hW
  have B7 : Hid _ := below_step B6.out hW
  clear hbl A6 P6 B6 hW CB CF
  go_wp2_with (first | (refine wpList_row (by rfl) 27 (.tmp 13) rfl _ rfl _ _ _ A7 HS.out rfl (by rw [regs57_size]; exact info57) ?_))
  refine (HK.out.write F u HF.out 836 x HX.out _).mono ?_
  rintro e w8 ⟨rfl, b8⟩
  rw [write_836, show writeE 836 = 7 by decide]
  have A8 := kept_on A7 b8
  have P8 := kept_on P7 b8
  have Q8 := kept_on Q7 b8
  have B8 : Hid _ := below_step B7.out b8
  clear b8 A7 P7 Q7 B7
  go_wp2_with (first | (refine wpList_fill rfl 27 (.tmp 22) (.tmp 81) rfl rfl (regs57 _ _) rfl 27 _ (by rw [regs57_size]; exact info57) (by rw [zero57, regs57_size, regs57_size]) (regs57_one _ _) ?_))
  intro w9 _ b9
  have A9 := kept_on A8 b9
  have P9 := kept_on P8 b9
  have Q9 := kept_on Q8 b9
  have B9 : Hid _ := below_step B8.out b9
  generalize w8.heap.size = s0 at *
  clear b9 A8 P8 Q8 B8
  go_wp2_with (first | (refine wpList_row (by rfl) 27 (.tmp 13) rfl _ rfl _ _ _ A9 HS.out rfl (by rw [regs57_size]; exact info57) ?_))
  refine (HK.out.write F u HF.out 3072 x HX.out _).mono ?_
  rintro e w10 ⟨rfl, b10⟩
  rw [write_3072, show writeE 3072 = 7 by decide]
  have A10 := kept_on A9 b10
  have P10 := kept_on P9 b10
  have Q10 := kept_on Q9 b10
  have B10 : Hid _ := below_step B9.out b10
  clear b10 A9 P9 Q9 B9
  go_wp2_with (first | (refine wpList_fill rfl 27 (.tmp 24) (.tmp 87) rfl rfl (regs57 _ _) rfl 27 _ (by rw [regs57_size]; exact info57) (by rw [zero57, regs57_size, regs57_size]) (regs57_one _ _) ?_))
  intro w11 S11 b11
  have A11 := kept_on A10 b11
  have P11 := kept_on P10 b11
  have Q11 := kept_on Q10 b11
  have B11 : Hid _ := below_step B10.out b11
  generalize w10.heap.size = s at *
  clear b11 A10 P10 Q10 B10
  go_wp2_with (first | (refine wpList_row (by rfl) 27 (.tmp 13) rfl _ rfl _ _ _ A11 HS.out rfl (by rw [regs57_size]; exact info57) ?_))
  refine (HK.out.read F u HF.out 3072 now due _).mono ?_
  rintro e w12 ⟨rfl, b12⟩
  rw [show readN F 3072 now due = now % 4294967296 from rfl, show readE 3072 = 0 by decide]
  have IS : Hid (BackIs w F G B u r p q s w12) := ⟨kept_on A11 b12, kept_on P11 b12, kept_on Q11 b12, kept_on S11 b12, below_step B11.out b12⟩
  clear b12 A11 P11 Q11 S11 B11 HK HF HX
  have QF := eq57 F u
  have Q32 := eq32 F
  have p32 : Hid (G 32 = F 32) := HP.out 32 (by decide)
  have Z0 : IntKind.i64.wrap 0 = 0 := by decide
  have V1 : IntKind.u32.wrap now = now % 4294967296 := IntKind.wrap_u32' now
  go_wp2_with fail
  simp only [List.append_eq, List.cons_append, List.nil_append] at *
  refine (zErr _ _).mono ?_
  rintro e w' ⟨rfl, hw'⟩
  rw [hw']
  clear hw' w'
  go_wp2_with (first | (refine seq_at 99 rfl (fun w' => BackIs w F G B u r p q s w') IS.out ?_))
  refine sched_call 12 #[.int .i64 0] (some 99) rfl rfl (by rfl) (by kernel_rfl) ?_
  refine (zErr _ _).mono ?_
  rintro e w' ⟨rfl, hw'⟩
  rw [hw']
  clear hw' w'
  refine ⟨_, rfl, IS.out, ?_⟩
  simp only [Act.put, List.setIfInBounds_toArray, List.set_cons_zero, List.set_cons_succ]
  refine sched_take ?_ (some 100) rfl rfl (by rfl) ?_ ?_
  rotate_left
  · intro w' hSw
    go_simp
    try with_reducible rfl
  simp only [Act.put, List.setIfInBounds_toArray, List.set_cons_zero, List.set_cons_succ]
  refine sched_take ?_ (some 101) rfl rfl (by rfl) ?_ ?_
  rotate_left
  · intro w' hSw
    go_simp
    try with_reducible rfl
  simp only [Act.put, List.setIfInBounds_toArray, List.set_cons_zero, List.set_cons_succ]
  refine sched_call 12 #[.int .i64 0] (some 102) rfl rfl (by rfl) (by kernel_rfl) ?_
  refine (zErr _ _).mono ?_
  rintro e w' ⟨rfl, hw'⟩
  rw [hw']
  clear hw' w'
  refine ⟨_, rfl, IS.out, ?_⟩
  simp only [Act.put, List.setIfInBounds_toArray, List.set_cons_zero, List.set_cons_succ]
  refine sched_take ?_ (some 103) rfl rfl (by rfl) ?_ ?_
  rotate_left
  · intro w' hSw
    go_simp
    try with_reducible rfl
  simp only [Act.put, List.setIfInBounds_toArray, List.set_cons_zero, List.set_cons_succ]
  refine sched_take ?_ (some 104) rfl rfl (by rfl) ?_ ?_
  rotate_left
  · intro w' hSw
    go_simp
    try with_reducible rfl
  simp only [Act.put, List.setIfInBounds_toArray, List.set_cons_zero, List.set_cons_succ]
  refine sched_call 12 #[.int .i64 0] (some 105) rfl rfl (by rfl) (by kernel_rfl) ?_
  refine (zErr _ _).mono ?_
  rintro e w' ⟨rfl, hw'⟩
  rw [hw']
  clear hw' w'
  refine ⟨_, rfl, IS.out, ?_⟩
  simp only [Act.put, List.setIfInBounds_toArray, List.set_cons_zero, List.set_cons_succ]
  refine sched_take ?_ (some 106) rfl rfl (by rfl) ?_ ?_
  rotate_left
  · intro w' hSw
    go_simp
    try with_reducible rfl
  simp only [Act.put, List.setIfInBounds_toArray, List.set_cons_zero, List.set_cons_succ]
  refine sched_take ?_ (some 107) rfl rfl (by rfl) ?_ ?_
  rotate_left
  · intro w' hSw
    go_simp
    try with_reducible rfl
  simp only [Act.put, List.setIfInBounds_toArray, List.set_cons_zero, List.set_cons_succ]
  refine sched_take ?_ (some 108) rfl rfl (by rfl) ?_ ?_
  rotate_left
  · intro w' hSw
    go_simp
    try with_reducible rfl
  simp only [Act.put, List.setIfInBounds_toArray, List.set_cons_zero, List.set_cons_succ]
  refine sched_take ?_ (some 109) rfl rfl (by rfl) ?_ ?_
  rotate_left
  · intro w' hSw
    go_simp
    try with_reducible rfl
  simp only [Act.put, List.setIfInBounds_toArray, List.set_cons_zero, List.set_cons_succ]
  refine sched_take ?_ (some 110) rfl rfl (by rfl) ?_ ?_
  rotate_left
  · intro w' hSw
    go_simp
    try with_reducible rfl
  simp only [Act.put, List.setIfInBounds_toArray, List.set_cons_zero, List.set_cons_succ]
  refine sched_take ?_ (some 111) rfl rfl (by rfl) ?_ ?_
  rotate_left
  · intro w' hSw
    go_simp
    try with_reducible rfl
  simp only [Act.put, List.setIfInBounds_toArray, List.set_cons_zero, List.set_cons_succ]
  refine sched_take ?_ (some 112) rfl rfl (by rfl) ?_ ?_
  rotate_left
  · intro w' hSw
    go_simp
    try with_reducible rfl
  simp only [Act.put, List.setIfInBounds_toArray, List.set_cons_zero, List.set_cons_succ]
  refine sched_take ?_ (some 113) rfl rfl (by rfl) ?_ ?_
  rotate_left
  · intro w' hSw
    go_simp
    try with_reducible rfl
  simp only [Act.put, List.setIfInBounds_toArray, List.set_cons_zero, List.set_cons_succ]
  refine sched_take ?_ (some 114) rfl rfl (by rfl) ?_ ?_
  rotate_left
  · intro w' hSw
    go_simp
    try with_reducible rfl
  simp only [Act.put, List.setIfInBounds_toArray, List.set_cons_zero, List.set_cons_succ]
  refine sched_mids (some 115) rfl (by rfl) 24 (.tmp 114) rfl _ _ rfl (row32 F) _ (fun w' h => regs_range32 h.p (fun j hj => HP.out j (by omega))) und32 rfl (by rw [row32_size]; exact info32) ?_
  simp only [Act.put, List.setIfInBounds_toArray, List.set_cons_zero, List.set_cons_succ]
  refine sched_take ?_ (some 116) rfl rfl (by rfl) ?_ ?_
  rotate_left
  · intro w' hSw
    go_simp
    try with_reducible rfl
  simp only [Act.put, List.setIfInBounds_toArray, List.set_cons_zero, List.set_cons_succ]
  refine sched_mids (some 117) rfl (by rfl) 24 (.tmp 116) rfl _ _ rfl (row32 F) _ (fun w' h => regs_range32 h.r (fun _ _ => rfl)) und32 rfl (by rw [row32_size]; exact info32) ?_
  simp only [Act.put, List.setIfInBounds_toArray, List.set_cons_zero, List.set_cons_succ]
  refine sched_take ?_ (some 118) rfl rfl (by rfl) ?_ ?_
  rotate_left
  · intro w' hSw
    go_simp
    try with_reducible rfl
  simp only [Act.put, List.setIfInBounds_toArray, List.set_cons_zero, List.set_cons_succ]
  refine sched_take ?_ (some 119) rfl rfl (by rfl) ?_ ?_
  rotate_left
  · intro w' hSw
    go_simp
    try with_reducible rfl
  simp only [Act.put, List.setIfInBounds_toArray, List.set_cons_zero, List.set_cons_succ]
  refine sched_take ?_ (some 120) rfl rfl (by rfl) ?_ ?_
  rotate_left
  · intro w' hSw
    go_simp
    try with_reducible rfl
  simp only [Act.put, List.setIfInBounds_toArray, List.set_cons_zero, List.set_cons_succ]
  refine sched_take ?_ (some 121) rfl rfl (by rfl) ?_ ?_
  rotate_left
  · intro w' hSw
    go_simp
    try with_reducible rfl
  simp only [Act.put, List.setIfInBounds_toArray, List.set_cons_zero, List.set_cons_succ]
  refine sched_take ?_ (some 122) rfl rfl (by rfl) ?_ ?_
  rotate_left
  · intro w' hSw
    have c := regs_cell hSw.p 32 (by decide) (by decide) p32.out
    go_simp
    try with_reducible rfl
  simp only [Act.put, List.setIfInBounds_toArray, List.set_cons_zero, List.set_cons_succ]
  refine sched_take ?_ (some 123) rfl rfl (by rfl) ?_ ?_
  rotate_left
  · intro w' hSw
    go_simp
    try with_reducible rfl
  simp only [Act.put, List.setIfInBounds_toArray, List.set_cons_zero, List.set_cons_succ]
  refine sched_take ?_ (some 124) rfl rfl (by rfl) ?_ ?_
  rotate_left
  · intro w' hSw
    have c := regs_cell hSw.r 32 (by decide) (by decide) rfl
    go_simp
    try with_reducible rfl
  simp only [Act.put, List.setIfInBounds_toArray, List.set_cons_zero, List.set_cons_succ]
  refine sched_take ?_ (some 125) rfl rfl (by rfl) ?_ ?_
  rotate_left
  · intro w' hSw
    go_simp
    try with_reducible rfl
  simp only [Act.put, List.setIfInBounds_toArray, List.set_cons_zero, List.set_cons_succ]
  refine sched_take ?_ (some 126) rfl rfl (by rfl) ?_ ?_
  rotate_left
  · intro w' hSw
    go_simp
    try with_reducible rfl
  simp only [Act.put, List.setIfInBounds_toArray, List.set_cons_zero, List.set_cons_succ]
  refine sched_take ?_ (some 127) rfl rfl (by rfl) ?_ ?_
  rotate_left
  · intro w' hSw
    go_simp
    try with_reducible rfl
  simp only [Act.put, List.setIfInBounds_toArray, List.set_cons_zero, List.set_cons_succ]
  refine sched_take ?_ (some 128) rfl rfl (by rfl) ?_ ?_
  rotate_left
  · intro w' hSw
    go_simp
    try with_reducible rfl
  simp only [Act.put, List.setIfInBounds_toArray, List.set_cons_zero, List.set_cons_succ]
  refine sched_take ?_ (some 129) rfl rfl (by rfl) ?_ ?_
  rotate_left
  · intro w' hSw
    have c := regs_user hSw.p
    go_simp
    try with_reducible rfl
  simp only [Act.put, List.setIfInBounds_toArray, List.set_cons_zero, List.set_cons_succ]
  refine sched_take ?_ (some 130) rfl rfl (by rfl) ?_ ?_
  rotate_left
  · intro w' hSw
    go_simp
    try with_reducible rfl
  simp only [Act.put, List.setIfInBounds_toArray, List.set_cons_zero, List.set_cons_succ]
  refine sched_take ?_ (some 131) rfl rfl (by rfl) ?_ ?_
  rotate_left
  · intro w' hSw
    go_simp
    try with_reducible rfl
  simp only [Act.put, List.setIfInBounds_toArray, List.set_cons_zero, List.set_cons_succ]
  refine sched_take ?_ (some 132) rfl rfl (by rfl) ?_ ?_
  rotate_left
  · intro w' hSw
    go_simp
    try with_reducible rfl
  simp only [Act.put, List.setIfInBounds_toArray, List.set_cons_zero, List.set_cons_succ]
  refine sched_take ?_ (some 133) rfl rfl (by rfl) ?_ ?_
  rotate_left
  · intro w' hSw
    go_simp
    try with_reducible rfl
  simp only [Act.put, List.setIfInBounds_toArray, List.set_cons_zero, List.set_cons_succ]
  refine sched_take ?_ (some 134) rfl rfl (by rfl) ?_ ?_
  rotate_left
  · intro w' hSw
    go_simp
    try with_reducible rfl
  simp only [Act.put, List.setIfInBounds_toArray, List.set_cons_zero, List.set_cons_succ]
  refine sched_take ?_ (some 135) rfl rfl (by rfl) ?_ ?_
  rotate_left
  · intro w' hSw
    go_simp
    try with_reducible rfl
  simp only [Act.put, List.setIfInBounds_toArray, List.set_cons_zero, List.set_cons_succ]
  refine sched_take ?_ (some 136) rfl rfl (by rfl) ?_ ?_
  rotate_left
  · intro w' hSw
    go_simp
    try with_reducible rfl
  simp only [Act.put, List.setIfInBounds_toArray, List.set_cons_zero, List.set_cons_succ]
  refine sched_take ?_ (some 137) rfl rfl (by rfl) ?_ ?_
  rotate_left
  · intro w' hSw
    go_simp
    try with_reducible rfl
  simp only [Act.put, List.setIfInBounds_toArray, List.set_cons_zero, List.set_cons_succ]
  refine sched_take ?_ (some 138) rfl rfl (by rfl) ?_ ?_
  rotate_left
  · intro w' hSw
    go_simp
    try with_reducible rfl
  simp only [Act.put, List.setIfInBounds_toArray, List.set_cons_zero, List.set_cons_succ]
  refine sched_take ?_ (some 139) rfl rfl (by rfl) ?_ ?_
  rotate_left
  · intro w' hSw
    go_simp
    try with_reducible rfl
  simp only [Act.put, List.setIfInBounds_toArray, List.set_cons_zero, List.set_cons_succ]
  refine sched_take ?_ (some 140) rfl rfl (by rfl) ?_ ?_
  rotate_left
  · intro w' hSw
    go_simp
    try with_reducible rfl
  simp only [Act.put, List.setIfInBounds_toArray, List.set_cons_zero, List.set_cons_succ]
  refine sched_take ?_ (some 141) rfl rfl (by rfl) ?_ ?_
  rotate_left
  · intro w' hSw
    go_simp
    try with_reducible rfl
  simp only [Act.put, List.setIfInBounds_toArray, List.set_cons_zero, List.set_cons_succ]
  refine sched_take ?_ (some 142) rfl rfl (by rfl) ?_ ?_
  rotate_left
  · intro w' hSw
    go_simp
    try with_reducible rfl
  simp only [Act.put, List.setIfInBounds_toArray, List.set_cons_zero, List.set_cons_succ]
  refine sched_skip (some 143) rfl (by rfl) ?_
  simp only [Act.put, List.setIfInBounds_toArray, List.set_cons_zero, List.set_cons_succ]
  refine sched_skip (some 144) rfl (by rfl) ?_
  simp only [Act.put, List.setIfInBounds_toArray, List.set_cons_zero, List.set_cons_succ]
  refine sched_skip (some 145) rfl (by rfl) ?_
  simp only [Act.put, List.setIfInBounds_toArray, List.set_cons_zero, List.set_cons_succ]
  refine sched_take ?_ (some 146) rfl rfl (by rfl) ?_ ?_
  rotate_left
  · intro w' hSw
    go_simp
    try with_reducible rfl
  simp only [Act.put, List.setIfInBounds_toArray, List.set_cons_zero, List.set_cons_succ]
  refine sched_take ?_ (some 147) rfl rfl (by rfl) ?_ ?_
  rotate_left
  · intro w' hSw
    go_simp
    try with_reducible rfl
  simp only [Act.put, List.setIfInBounds_toArray, List.set_cons_zero, List.set_cons_succ]
  refine sched_skip (some 148) rfl (by rfl) ?_
  simp only [Act.put, List.setIfInBounds_toArray, List.set_cons_zero, List.set_cons_succ]
  refine sched_skip (some 149) rfl (by rfl) ?_
  simp only [Act.put, List.setIfInBounds_toArray, List.set_cons_zero, List.set_cons_succ]
  refine sched_skip (some 150) rfl (by rfl) ?_
  simp only [Act.put, List.setIfInBounds_toArray, List.set_cons_zero, List.set_cons_succ]
  refine sched_take ?_ (some 151) rfl rfl (by rfl) ?_ ?_
  rotate_left
  · intro w' hSw
    go_simp
    try with_reducible rfl
  simp only [Act.put, List.setIfInBounds_toArray, List.set_cons_zero, List.set_cons_succ]
  refine sched_take ?_ (some 152) rfl rfl (by rfl) ?_ ?_
  rotate_left
  · intro w' hSw
    go_simp
    try with_reducible rfl
  simp only [Act.put, List.setIfInBounds_toArray, List.set_cons_zero, List.set_cons_succ]
  refine sched_take ?_ (some 153) rfl rfl (by rfl) ?_ ?_
  rotate_left
  · intro w' hSw
    go_simp
    try with_reducible rfl
  simp only [Act.put, List.setIfInBounds_toArray, List.set_cons_zero, List.set_cons_succ]
  refine sched_take ?_ (some 154) rfl rfl (by rfl) ?_ ?_
  rotate_left
  · intro w' hSw
    go_simp
    try with_reducible rfl
  simp only [Act.put, List.setIfInBounds_toArray, List.set_cons_zero, List.set_cons_succ]
  refine sched_call 12 #[.int .i64 7] (some 155) rfl rfl (by rfl) (by kernel_rfl) ?_
  refine (zErr _ _).mono ?_
  rintro e w' ⟨rfl, hw'⟩
  rw [hw']
  clear hw' w'
  refine ⟨_, rfl, IS.out, ?_⟩
  simp only [Act.put, List.setIfInBounds_toArray, List.set_cons_zero, List.set_cons_succ]
  refine sched_take ?_ (some 156) rfl rfl (by rfl) ?_ ?_
  rotate_left
  · intro w' hSw
    go_simp
    try with_reducible rfl
  simp only [Act.put, List.setIfInBounds_toArray, List.set_cons_zero, List.set_cons_succ]
  refine sched_take ?_ (some 157) rfl rfl (by rfl) ?_ ?_
  rotate_left
  · intro w' hSw
    go_simp
    try with_reducible rfl
  simp only [Act.put, List.setIfInBounds_toArray, List.set_cons_zero, List.set_cons_succ]
  refine sched_take ?_ (some 158) rfl rfl (by rfl) ?_ ?_
  rotate_left
  · intro w' hSw
    go_simp
    try with_reducible rfl
  simp only [Act.put, List.setIfInBounds_toArray, List.set_cons_zero, List.set_cons_succ]
  refine sched_take ?_ (some 159) rfl rfl (by rfl) ?_ ?_
  rotate_left
  · intro w' hSw
    go_simp
    try with_reducible rfl
  simp only [Act.put, List.setIfInBounds_toArray, List.set_cons_zero, List.set_cons_succ]
  refine sched_call 12 #[.int .i64 7] (some 160) rfl rfl (by rfl) (by kernel_rfl) ?_
  refine (zErr _ _).mono ?_
  rintro e w' ⟨rfl, hw'⟩
  rw [hw']
  clear hw' w'
  refine ⟨_, rfl, IS.out, ?_⟩
  simp only [Act.put, List.setIfInBounds_toArray, List.set_cons_zero, List.set_cons_succ]
  refine sched_take ?_ (some 161) rfl rfl (by rfl) ?_ ?_
  rotate_left
  · intro w' hSw
    go_simp
    try with_reducible rfl
  simp only [Act.put, List.setIfInBounds_toArray, List.set_cons_zero, List.set_cons_succ]
  refine sched_take ?_ (some 162) rfl rfl (by rfl) ?_ ?_
  rotate_left
  · intro w' hSw
    go_simp
    try with_reducible rfl
  simp only [Act.put, List.setIfInBounds_toArray, List.set_cons_zero, List.set_cons_succ]
  refine sched_take ?_ (some 163) rfl rfl (by rfl) ?_ ?_
  rotate_left
  · intro w' hSw
    go_simp
    try with_reducible rfl
  simp only [Act.put, List.setIfInBounds_toArray, List.set_cons_zero, List.set_cons_succ]
  refine sched_row (some 164) rfl (by rfl) 27 (.tmp 24) rfl _ rfl _ _ _ _ (fun w' h => h.s) HS.out rfl (by rw [regs57_size]; exact info57) ?_
  simp only [Act.put, List.setIfInBounds_toArray, List.set_cons_zero, List.set_cons_succ]
  refine sched_row (some 165) rfl (by rfl) 27 (.tmp 13) rfl _ rfl _ _ _ _ (fun w' h => h.r) HS.out rfl (by rw [regs57_size]; exact info57) ?_
  simp only [Act.put, List.setIfInBounds_toArray, List.set_cons_zero, List.set_cons_succ]
  refine sched_take ?_ (some 166) rfl rfl (by rfl) ?_ ?_
  rotate_left
  · intro w' hSw
    go_simp
    try with_reducible rfl
  simp only [Act.put, List.setIfInBounds_toArray, List.set_cons_zero, List.set_cons_succ]
  refine sched_take ?_ (some 167) rfl rfl (by rfl) ?_ ?_
  rotate_left
  · intro w' hSw
    go_simp
    try with_reducible rfl
  simp only [Act.put, List.setIfInBounds_toArray, List.set_cons_zero, List.set_cons_succ]
  refine sched_take ?_ (some 168) rfl rfl (by rfl) ?_ ?_
  rotate_left
  · intro w' hSw
    go_simp
    try with_reducible rfl
  simp only [Act.put, List.setIfInBounds_toArray, List.set_cons_zero, List.set_cons_succ]
  refine sched_take ?_ (some 169) rfl rfl (by rfl) ?_ ?_
  rotate_left
  · intro w' hSw
    go_simp
    try with_reducible rfl
  simp only [Act.put, List.setIfInBounds_toArray, List.set_cons_zero, List.set_cons_succ]
  refine sched_take ?_ (some 170) rfl rfl (by rfl) ?_ ?_
  rotate_left
  · intro w' hSw
    go_simp
    try with_reducible rfl
  simp only [Act.put, List.setIfInBounds_toArray, List.set_cons_zero, List.set_cons_succ]
  refine sched_take ?_ (some 171) rfl rfl (by rfl) ?_ ?_
  rotate_left
  · intro w' hSw
    go_simp
    try with_reducible rfl
  simp only [Act.put, List.setIfInBounds_toArray, List.set_cons_zero, List.set_cons_succ]
  refine sched_take ?_ (some 172) rfl rfl (by rfl) ?_ ?_
  rotate_left
  · intro w' hSw
    go_simp
    try with_reducible rfl
  simp only [Act.put, List.setIfInBounds_toArray, List.set_cons_zero, List.set_cons_succ]
  refine sched_take ?_ (some 173) rfl rfl (by rfl) ?_ ?_
  rotate_left
  · intro w' hSw
    go_simp
    try with_reducible rfl
  simp only [Act.put, List.setIfInBounds_toArray, List.set_cons_zero, List.set_cons_succ]
  refine sched_take ?_ (some 174) rfl rfl (by rfl) ?_ ?_
  rotate_left
  · intro w' hSw
    go_simp
    try with_reducible rfl
  simp only [Act.put, List.setIfInBounds_toArray, List.set_cons_zero, List.set_cons_succ]
  refine sched_call 17 #[] (some 175) rfl rfl (by rfl) (by kernel_rfl) ?_
  refine (CW.out _).mono ?_
  rintro e wn ⟨rfl, bn⟩
  have IN : Hid _ := IS.out.on bn
  clear IS bn
  refine ⟨_, rfl, IN.out, ?_⟩
  simp only [Act.put, List.setIfInBounds_toArray, List.set_cons_zero, List.set_cons_succ]
  refine sched_take ?_ (some 176) rfl rfl (by rfl) ?_ ?_
  rotate_left
  · intro w' hSw
    go_simp
    try with_reducible rfl
  simp only [Act.put, List.setIfInBounds_toArray, List.set_cons_zero, List.set_cons_succ]
  refine sched_take ?_ (some 12) rfl rfl (by rfl) ?_ ?_
  rotate_left
  · intro w' hSw
    go_simp
    try with_reducible rfl
  simp only [Act.put, List.setIfInBounds_toArray, List.set_cons_zero, List.set_cons_succ]
  refine sched_done ?_
  go_wp2
  go_ret
  exact ⟨rfl, IN.out.below⟩

theorem andNot_three {x : Int} (h : U32 x) : bits .andNot .u32 x 3 = x / 4 * 4 := by
  obtain ⟨X, rfl⟩ := Int.eq_ofNat_of_zero_le h.1
  have h1 : X < 4294967296 := by have := h.2; omega
  have := u32_andNot_nat X 3 h1 (by decide)
  rw [show ((3 : Nat) : Int) = 3 by rfl, show (4294967295 - 3 : Nat) = 4294967292 by rfl, nat_hi32_2] at this
  rw [this]
  omega
/-- In the form in which the frame opens what came in. -/
theorem csrBack (K : CsrK) (a : Option Addr) (n cap : Nat) (zs : List Int) (u : Bool) (wh x now : Int) (due : Bool) (h0 : 0 ≤ wh) (h255 : wh ≤ 255) (hx : U32 x) (w : World)
    (hz : (a = none ∧ n = 0 ∧ cap = 0 ∧ zs = []) ∨ ∃ q, a = some q ∧ n ≤ cap ∧ cap ≤ maxLen ∧ zs.length = cap ∧ (∀ i, i < zs.length → w.cell? (q.add i) = some (.int .u32 (zs.getD i 0))) ∧ ∀ z ∈ zs, (Lit.int .u32 z).wf = true) :
    Calls Try.prog 4 #[.slice a n cap, .bool u, .int .u8 wh, .int .u32 x, .int .i64 now, .bool due] w fun e w' => e = .returned (.bool true) ∧ Below w.heap.size w w' := by
  obtain ⟨c, off, h1, h2, h3, h4⟩ := came_words hz
  obtain ⟨g, hg⟩ := Int.eq_ofNat_of_zero_le (show 0 ≤ wh / 8 % 16 by omega)
  obtain ⟨k, hk⟩ := Int.eq_ofNat_of_zero_le (show 0 ≤ wh % 7 by omega)
  obtain ⟨m, i, hT, hO, t1, t2, t3⟩ := ownTab g (by omega) k (by omega)
  by_cases e3 : k = 3
  · subst e3
    have em : m = 773 := by have : (backTab (g : Int))[3]? = some (.int .i64 773) := rfl; rw [this] at hT; injection hT with hT; injection hT with _ hT; exact hT.symm
    subst em
    exact csrBack_three K a c off n cap zs u wh x now due h0 h255 hx h4 w h1 h2 h3 hk g hg i hO (by rw [t1 (Or.inl rfl), andNot_three hx])
  by_cases e4 : k = 4
  · subst e4
    have em : m = 833 := by have : (backTab (g : Int))[4]? = some (.int .i64 833) := rfl; rw [this] at hT; injection hT with hT; injection hT with _ hT; exact hT.symm
    subst em
    exact csrBack_four K a c off n cap zs u wh x now due h0 h255 hx h4 w h1 h2 h3 hk g hg i hO (by rw [t1 (Or.inr rfl), andNot_three hx])
  by_cases e5 : k = 5
  · subst e5
    have em : m = 772 := by have : (backTab (g : Int))[5]? = some (.int .i64 772) := rfl; rw [this] at hT; injection hT with hT; injection hT with _ hT; exact hT.symm
    subst em
    exact csrBack_five K a c off n cap zs u wh x now due h0 h255 hx h4 w h1 h2 h3 hk g hg i hO (t2 rfl x)
  exact csrBack_other K a c off n cap zs u wh x now due h0 h255 hx h4 w h1 h2 h3 k (by omega) e3 e4 e5 hk g hg m i hT hO (t3 e3 e4 e5 x) (t3 e3 e4 e5)
end Go.Proofs.Ytmmaoncgfmfbjaa
