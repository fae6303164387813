/-
  The word of an instruction, as the code writes it: what stands behind the first two statements of the function that does it.
-/
import Derived.Test.YtpjnefnngmlpjaaCodej
import Derived.Test.YtpjnefnngmlpjaaCoden
import Derived.Test.YtpjnefnngmlpjaaMix
namespace Go.Proofs.Ytpjnefnngmlpjaa
open Go.RowKit

theorem allocP (w : World) : (Instr.alloc 171 true (.tuple #[])).run Try.prog w = .ok (.pointer (some ⟨w.heap.size, 0, none⟩)) (w.alloc (.cells #[.int .u32 0, .int .i64 0] 171)) := by kernel_rfl
theorem storeP (v n : Int) (w : World) (b : Nat) (h : w.heap[b]? = some (.cells #[.int .u32 0, .int .i64 0] 171)) :
    ∃ w', (Instr.storeAt 171 (.pointer (some ⟨b, 0, none⟩)) (.agg #[.int .u32 v, .int .i64 n])).run Try.prog w = .ok () w' ∧ Turned b (.cells #[.int .u32 v, .int .i64 n] 171) w w' := by
  obtain ⟨cc, cf, cs⟩ := cells_of h
  have c0 := cc 0 (.int .u32 0) rfl
  have c1 := cc 1 (.int .i64 0) rfl
  have f0 := cf 0
  have f1 := cf 1
  refine ⟨(w.setCell ⟨b, 0, none⟩ (.int .u32 v)).setCell ⟨b, 1, none⟩ (.int .i64 n), by simp [go_sem, c0, c1, f0, f1], ⟨rfl, rfl, rfl, by simp [World.setCell], ?_, fun k hk => ?_⟩⟩
  · rw [heap_setCell_at _ (heap_setCell_at _ h)]; rfl
  · rw [Below.heap_setCell _ _ _ _ hk, Below.heap_setCell _ _ _ _ hk]

/-- Pieces as cells. -/
def pcells : List (Int × Int) → List Value
  | [] => []
  | p :: l => .int .u32 p.1 :: .int .i64 p.2 :: pcells l
theorem pcells_at : ∀ (ps : List (Int × Int)) (j : Nat) (p : Int × Int), ps[j]? = some p → (pcells ps)[j * 2]? = some (.int .u32 p.1) ∧ (pcells ps)[j * 2 + 1]? = some (.int .i64 p.2)
  | [], _, _, h => by simp at h
  | q :: l, 0, p, h => by
    simp only [List.getElem?_cons_zero, Option.some.injEq] at h
    subst h
    exact ⟨rfl, rfl⟩
  | q :: l, j + 1, p, h => by
    simp only [List.getElem?_cons_succ] at h
    have := pcells_at l j p h
    rw [show (j + 1) * 2 = j * 2 + 1 + 1 by omega]
    exact this
theorem cjoin_new (ps : List (Int × Int)) (n : Nat) (hn : n = ps.length) (hl : n ≤ 8) (hp : ∀ p ∈ ps, 1 ≤ p.2 ∧ p.2 ≤ 32) (w : World) :
    Calls Try.prog 104 #[.slice (some ⟨w.heap.size, 0, none⟩) n n] (w.alloc (.cells (pcells ps).toArray 171)) fun e w' => e = .returned (.int .u32 (joinV ps 0)) ∧ Below w.heap.size w w' := by
  refine (cjoin ps w.heap.size n hn hl hp _ (fun j p h => ?_) (by simp)).mono ?_
  · exact ⟨cell_new w _ _ _ _ (pcells_at ps j p h).1, cell_new w _ _ _ _ (pcells_at ps j p h).2⟩
  · rintro e w' ⟨rfl, hb⟩
    exact ⟨rfl, below_first hb⟩
/-- The word by a layout, its pieces joined. -/
def encV (la o o7 g3 f7 d5 a5 b5 mm : Int) : Int :=
  if la = 0 then joinV [(f7, 7), (b5, 5), (a5, 5), (g3, 3), (d5, 5), (o7, 7)] 0
  else if la = 1 ∨ la = 7 then joinV [(bitsV mm 0 12, 12), (a5, 5), (g3, 3), (d5, 5), (o7, 7)] 0
  else if la = 2 then joinV [(f7, 7), (bitsV mm 0 5, 5), (a5, 5), (g3, 3), (d5, 5), (o7, 7)] 0
  else if la = 3 then joinV [(bitsV mm 5 7, 7), (b5, 5), (a5, 5), (g3, 3), (bitsV mm 0 5, 5), (o7, 7)] 0
  else if la = 4 then joinV [(bitsV mm 12 1, 1), (bitsV mm 5 6, 6), (b5, 5), (a5, 5), (g3, 3), (bitsV mm 1 4, 4), (bitsV mm 11 1, 1), (o7, 7)] 0
  else if la = 5 then joinV [(bitsV mm 0 20, 20), (d5, 5), (o7, 7)] 0
  else if la = 6 then joinV [(bitsV mm 20 1, 1), (bitsV mm 1 10, 10), (bitsV mm 11 1, 1), (bitsV mm 12 8, 8), (d5, 5), (o7, 7)] 0
  else o

set_option maxRecDepth 100000 in
set_option maxHeartbeats 2000000 in
theorem encode_walk (s0 s : ByteArray) (la o f g d a b m : Int) (hla : 0 ≤ la ∧ la ≤ 8) (ho : U32 o) (hf : U32 f) (hg : U32 g) (w : World) :
    Calls Try.prog 102 #[.agg #[.string s0, .int .i64 la, .int .u32 o, .int .u32 f, .int .u32 g], .agg #[.string s, .int .i64 d, .int .i64 a, .int .i64 b, .int .i32 m]] w fun e w' => e = .returned (.int .u32 (encV la o (bitsV o 0 7) (bitsV g 0 3) (bitsV f 0 7) (bitsV (d % 4294967296) 0 5) (bitsV (a % 4294967296) 0 5) (bitsV (b % 4294967296) 0 5) (m % 4294967296))) ∧ Below w.heap.size w w' := by
  have hm : Try.prog.follows .mixedOrders = true := by kernel_rfl
  have CO : Hid _ := ccut o 0 7 ho (by omega) (by omega) (by omega) (by omega)
  have CG : Hid _ := ccut g 0 3 hg (by omega) (by omega) (by omega) (by omega)
  have CF : Hid _ := ccut f 0 7 hf (by omega) (by omega) (by omega) (by omega)
  generalize bitsV o 0 7 = o7 at *
  generalize bitsV g 0 3 = g3 at *
  generalize bitsV f 0 7 = f7 at *
  have hmm := IntKind.wrap_u32 m
  have Um : Hid (U32 (m % 4294967296)) := ⟨by omega, by omega⟩
  generalize m % 4294967296 = mm at *
  have hdd := IntKind.wrap_u32 d
  have Ud : U32 (d % 4294967296) := ⟨by omega, by omega⟩
  have CD : Hid _ := ccut (d % 4294967296) 0 5 Ud (by omega) (by omega) (by omega) (by omega)
  clear Ud
  generalize bitsV (d % 4294967296) 0 5 = d5 at *
  generalize d % 4294967296 = dd at *
  have haa := IntKind.wrap_u32 a
  have Ua : U32 (a % 4294967296) := ⟨by omega, by omega⟩
  have CA : Hid _ := ccut (a % 4294967296) 0 5 Ua (by omega) (by omega) (by omega) (by omega)
  clear Ua
  generalize bitsV (a % 4294967296) 0 5 = a5 at *
  generalize a % 4294967296 = aa at *
  have hbb := IntKind.wrap_u32 b
  have Ub : U32 (b % 4294967296) := ⟨by omega, by omega⟩
  have CB : Hid _ := ccut (b % 4294967296) 0 5 Ub (by omega) (by omega) (by omega) (by omega)
  clear Ub
  generalize bitsV (b % 4294967296) 0 5 = b5 at *
  generalize b % 4294967296 = bb at *
  have hla' : la = 0 ∨ la = 1 ∨ la = 2 ∨ la = 3 ∨ la = 4 ∨ la = 5 ∨ la = 6 ∨ la = 7 ∨ la = 8 := by omega
  have HLA : Hid _ := hla'
  clear hla hla' ho hf hg
  go_enter Try.func102, Try.ntmps102
  go_wp2_with fail
  have k1 : ((w.alloc (.cells #[.string s0, .int .i64 la, .int .u32 o, .int .u32 f, .int .u32 g] 156)).alloc (.cells #[.string s, .int .i64 d, .int .i64 a, .int .i64 b, .int .i32 m] 31)).heap[w.heap.size]? = some (.cells #[.string s0, .int .i64 la, .int .u32 o, .int .u32 f, .int .u32 g] 156) := by
    rw [Below.heap_alloc _ _ _ (by simp)]
    show (w.heap.push _)[w.heap.size]? = _
    simp
  have i1 : ((w.alloc (.cells #[.string s0, .int .i64 la, .int .u32 o, .int .u32 f, .int .u32 g] 156)).alloc (.cells #[.string s, .int .i64 d, .int .i64 a, .int .i64 b, .int .i32 m] 31)).heap[w.heap.size + 1]? = some (.cells #[.string s, .int .i64 d, .int .i64 a, .int .i64 b, .int .i32 m] 31) := by
    have := alloc_at (w.alloc (.cells #[.string s0, .int .i64 la, .int .u32 o, .int .u32 f, .int .u32 g] 156)) (.cells #[.string s, .int .i64 d, .int .i64 a, .int .i64 b, .int .i32 m] 31)
    rwa [World.size_alloc] at this
  have HB : Hid (Below w.heap.size w ((w.alloc (.cells #[.string s0, .int .i64 la, .int .u32 o, .int .u32 f, .int .u32 g] 156)).alloc (.cells #[.string s, .int .i64 d, .int .i64 a, .int .i64 b, .int .i32 m] 31))) := box2
  generalize (w.alloc (.cells #[.string s0, .int .i64 la, .int .u32 o, .int .u32 f, .int .u32 g] 156)).alloc (.cells #[.string s, .int .i64 d, .int .i64 a, .int .i64 b, .int .i32 m] 31) = V at *
  generalize w.heap.size + 1 = ib at *
  generalize hkb : w.heap.size = kb at *
  have Kc : ∀ w', Below V.heap.size V w' → ∀ (i : Nat) (v : Value), #[Value.string s0, .int .i64 la, .int .u32 o, .int .u32 f, .int .u32 g][i]? = some v → w'.cell? ⟨kb, i, none⟩ = some v := fun w' h => (cells_of (kept_on k1 h)).1
  have Ic : ∀ w', Below V.heap.size V w' → ∀ (i : Nat) (v : Value), #[Value.string s, .int .i64 d, .int .i64 a, .int .i64 b, .int .i32 m][i]? = some v → w'.cell? ⟨ib, i, none⟩ = some v := fun w' h => (cells_of (kept_on i1 h)).1
  refine wp_region_mix [⟨12, 5, 171, 15, 14, #[.int .u32 0, .int .i64 0], #[.int .u32 o7, .int .i64 7]⟩, ⟨13, 6, 171, 16, 17, #[.int .u32 0, .int .i64 0], #[.int .u32 g3, .int .i64 3]⟩, ⟨14, 7, 171, 17, 20, #[.int .u32 0, .int .i64 0], #[.int .u32 f7, .int .i64 7]⟩]
    [.pointer (some ⟨kb, 2, none⟩), .int .u32 o, .agg #[.int .u32 o7, .int .i64 7], .pointer (some ⟨kb, 4, none⟩), .int .u32 g, .agg #[.int .u32 g3, .int .i64 3], .pointer (some ⟨kb, 3, none⟩), .int .u32 f, .agg #[.int .u32 f7, .int .i64 7], .pointer (some ⟨ib, 4, none⟩), .int .i32 m, .int .u32 mm, undef, undef, undef, undef, undef, undef, .int .u32 mm] hm (by kernel_rfl) ?_ ?_ ?_ ?_ ?_
  · intro r hr
    simp only [List.mem_cons, List.not_mem_nil, or_false] at hr
    rcases hr with rfl | rfl | rfl
    · exact (by decide : 5 < 122)
    · exact (by decide : 6 < 122)
    · exact (by decide : 7 < 122)
  · generalize hl : lay _ _ _ = af
    have e2 : af.tmps[2]?.getD undef = .pointer (some ⟨kb, 0, none⟩) := by rw [← hl]; kernel_rfl
    have e3 : af.tmps[3]?.getD undef = .pointer (some ⟨ib, 0, none⟩) := by rw [← hl]; kernel_rfl
    have e12 : af.tmps[12]?.getD undef = .pointer (some ⟨kb, 2, none⟩) := by rw [← hl]; kernel_rfl
    have e13 : af.tmps[13]?.getD undef = .int .u32 o := by rw [← hl]; kernel_rfl
    have e15 : af.tmps[15]?.getD undef = .pointer (some ⟨kb, 4, none⟩) := by rw [← hl]; kernel_rfl
    have e16 : af.tmps[16]?.getD undef = .int .u32 g := by rw [← hl]; kernel_rfl
    have e18 : af.tmps[18]?.getD undef = .pointer (some ⟨kb, 3, none⟩) := by rw [← hl]; kernel_rfl
    have e19 : af.tmps[19]?.getD undef = .int .u32 f := by rw [← hl]; kernel_rfl
    have e21 : af.tmps[21]?.getD undef = .pointer (some ⟨ib, 4, none⟩) := by rw [← hl]; kernel_rfl
    have e22 : af.tmps[22]?.getD undef = .int .i32 m := by rw [← hl]; kernel_rfl
    have e23 : af.tmps[23]?.getD undef = .int .u32 mm := by rw [← hl]; kernel_rfl
    clear hl
    refine And.intro (fun w' hw => ?_) ?_
    · exact quiet_run (by simp [execOp, go_sem, e2])
    refine And.intro (fun w' hw => ?_) ?_
    · have c := Kc w' hw 2 (.int .u32 o) rfl
      exact quiet_run (by simp [execOp, go_sem, e12, c])
    refine And.intro (fun w' hw => ?_) ?_
    · exact quiet_enter 103 #[.int .u32 o, .int .i64 0, .int .i64 7] (by simp [go_sem, e13]) ((CO.out _).mono (by rintro e w'' ⟨rfl, rfl⟩; exact ⟨rfl, (Below.refl _ _).alloc (Nat.le_refl _) _⟩))
    refine And.intro (fun w' hw => ?_) ?_
    · exact quiet_run (by simp [execOp, go_sem, e2])
    refine And.intro (fun w' hw => ?_) ?_
    · have c := Kc w' hw 4 (.int .u32 g) rfl
      exact quiet_run (by simp [execOp, go_sem, e15, c])
    refine And.intro (fun w' hw => ?_) ?_
    · exact quiet_enter 103 #[.int .u32 g, .int .i64 0, .int .i64 3] (by simp [go_sem, e16]) ((CG.out _).mono (by rintro e w'' ⟨rfl, rfl⟩; exact ⟨rfl, (Below.refl _ _).alloc (Nat.le_refl _) _⟩))
    refine And.intro (fun w' hw => ?_) ?_
    · exact quiet_run (by simp [execOp, go_sem, e2])
    refine And.intro (fun w' hw => ?_) ?_
    · have c := Kc w' hw 3 (.int .u32 f) rfl
      exact quiet_run (by simp [execOp, go_sem, e18, c])
    refine And.intro (fun w' hw => ?_) ?_
    · exact quiet_enter 103 #[.int .u32 f, .int .i64 0, .int .i64 7] (by simp [go_sem, e19]) ((CF.out _).mono (by rintro e w'' ⟨rfl, rfl⟩; exact ⟨rfl, (Below.refl _ _).alloc (Nat.le_refl _) _⟩))
    refine And.intro (fun w' hw => ?_) ?_
    · exact quiet_run (by simp [execOp, go_sem, e3])
    refine And.intro (fun w' hw => ?_) ?_
    · have c := Ic w' hw 4 (.int .i32 m) rfl
      exact quiet_run (by simp [execOp, go_sem, e21, c])
    refine And.intro (fun w' hw => ?_) ?_
    · exact quiet_run (by simp [execOp, go_sem, e22, hmm])
    refine And.intro True.intro ?_
    refine And.intro True.intro ?_
    refine And.intro True.intro ?_
    refine And.intro True.intro ?_
    refine And.intro True.intro ?_
    refine And.intro True.intro ?_
    refine And.intro (fun w' hw => ?_) ?_
    · exact quiet_run (by simp [execOp, go_sem, e23])
    exact True.intro
  · intro r hr
    simp only [List.mem_cons, List.not_mem_nil, or_false] at hr
    rcases hr with rfl | rfl | rfl <;> exact allocP
  · intro r hr
    simp only [List.mem_cons, List.not_mem_nil, or_false] at hr
    generalize hl : lay _ _ _ = af
    have e14 : af.eval (.tmp 14) = .agg #[.int .u32 o7, .int .i64 7] := by rw [← hl]; kernel_rfl
    have e17 : af.eval (.tmp 17) = .agg #[.int .u32 g3, .int .i64 3] := by rw [← hl]; kernel_rfl
    have e20 : af.eval (.tmp 20) = .agg #[.int .u32 f7, .int .i64 7] := by rw [← hl]; kernel_rfl
    clear hl
    rcases hr with rfl | rfl | rfl
    · intro w' b' hb
      rw [e14]
      exact storeP o7 7 w' b' hb
    · intro w' b' hb
      rw [e17]
      exact storeP g3 3 w' b' hb
    · intro w' b' hb
      rw [e20]
      exact storeP f7 7 w' b' hb
  intro β1 W1 hW1 hbl1 hap1
  have q5 := hbl1 _ (by simp : ⟨12, 5, 171, 15, 14, #[.int .u32 0, .int .i64 0], #[.int .u32 o7, .int .i64 7]⟩ ∈ _)
  have q6 := hbl1 _ (by simp : ⟨13, 6, 171, 16, 17, #[.int .u32 0, .int .i64 0], #[.int .u32 g3, .int .i64 3]⟩ ∈ _)
  have q7 := hbl1 _ (by simp : ⟨14, 7, 171, 17, 20, #[.int .u32 0, .int .i64 0], #[.int .u32 f7, .int .i64 7]⟩ ∈ _)
  simp at q5 q6 q7
  simp [putAl, lay, Act.put]
  generalize β1 5 = x5 at *
  generalize β1 6 = x6 at *
  generalize β1 7 = x7 at *
  clear hbl1 hap1
  go_wp2_with fail
  have k2 := kept_on k1 hW1
  have i2 := kept_on i1 hW1
  have Ic2 : ∀ w', Below W1.heap.size W1 w' → ∀ (i : Nat) (v : Value), #[Value.string s, .int .i64 d, .int .i64 a, .int .i64 b, .int .i32 m][i]? = some v → w'.cell? ⟨ib, i, none⟩ = some v := fun w' h => (cells_of (kept_on i2 h)).1
  refine wp_region_mix [⟨12, 9, 171, 15, 27, #[.int .u32 0, .int .i64 0], #[.int .u32 d5, .int .i64 5]⟩, ⟨13, 10, 171, 16, 31, #[.int .u32 0, .int .i64 0], #[.int .u32 a5, .int .i64 5]⟩, ⟨14, 11, 171, 17, 35, #[.int .u32 0, .int .i64 0], #[.int .u32 b5, .int .i64 5]⟩]
    [.pointer (some ⟨ib, 1, none⟩), .int .i64 d, .int .u32 dd, .agg #[.int .u32 d5, .int .i64 5], .pointer (some ⟨ib, 2, none⟩), .int .i64 a, .int .u32 aa, .agg #[.int .u32 a5, .int .i64 5], .pointer (some ⟨ib, 3, none⟩), .int .i64 b, .int .u32 bb, .agg #[.int .u32 b5, .int .i64 5], undef, undef, undef, undef, undef, undef] hm (by kernel_rfl) ?_ ?_ ?_ ?_ ?_
  · intro r hr
    simp only [List.mem_cons, List.not_mem_nil, or_false] at hr
    rcases hr with rfl | rfl | rfl
    · exact (by decide : 9 < 122)
    · exact (by decide : 10 < 122)
    · exact (by decide : 11 < 122)
  · generalize hl : lay _ _ _ = af
    have e3 : af.tmps[3]?.getD undef = .pointer (some ⟨ib, 0, none⟩) := by rw [← hl]; kernel_rfl
    have e24 : af.tmps[24]?.getD undef = .pointer (some ⟨ib, 1, none⟩) := by rw [← hl]; kernel_rfl
    have e25 : af.tmps[25]?.getD undef = .int .i64 d := by rw [← hl]; kernel_rfl
    have e26 : af.tmps[26]?.getD undef = .int .u32 dd := by rw [← hl]; kernel_rfl
    have e28 : af.tmps[28]?.getD undef = .pointer (some ⟨ib, 2, none⟩) := by rw [← hl]; kernel_rfl
    have e29 : af.tmps[29]?.getD undef = .int .i64 a := by rw [← hl]; kernel_rfl
    have e30 : af.tmps[30]?.getD undef = .int .u32 aa := by rw [← hl]; kernel_rfl
    have e32 : af.tmps[32]?.getD undef = .pointer (some ⟨ib, 3, none⟩) := by rw [← hl]; kernel_rfl
    have e33 : af.tmps[33]?.getD undef = .int .i64 b := by rw [← hl]; kernel_rfl
    have e34 : af.tmps[34]?.getD undef = .int .u32 bb := by rw [← hl]; kernel_rfl
    clear hl
    refine And.intro (fun w' hw => ?_) ?_
    · exact quiet_run (by simp [execOp, go_sem, e3])
    refine And.intro (fun w' hw => ?_) ?_
    · have c := Ic2 w' hw 1 (.int .i64 d) rfl
      exact quiet_run (by simp [execOp, go_sem, e24, c])
    refine And.intro (fun w' hw => ?_) ?_
    · exact quiet_run (by simp [execOp, go_sem, e25, hdd])
    refine And.intro (fun w' hw => ?_) ?_
    · exact quiet_enter 103 #[.int .u32 dd, .int .i64 0, .int .i64 5] (by simp [go_sem, e26]) ((CD.out _).mono (by rintro e w'' ⟨rfl, rfl⟩; exact ⟨rfl, (Below.refl _ _).alloc (Nat.le_refl _) _⟩))
    refine And.intro (fun w' hw => ?_) ?_
    · exact quiet_run (by simp [execOp, go_sem, e3])
    refine And.intro (fun w' hw => ?_) ?_
    · have c := Ic2 w' hw 2 (.int .i64 a) rfl
      exact quiet_run (by simp [execOp, go_sem, e28, c])
    refine And.intro (fun w' hw => ?_) ?_
    · exact quiet_run (by simp [execOp, go_sem, e29, haa])
    refine And.intro (fun w' hw => ?_) ?_
    · exact quiet_enter 103 #[.int .u32 aa, .int .i64 0, .int .i64 5] (by simp [go_sem, e30]) ((CA.out _).mono (by rintro e w'' ⟨rfl, rfl⟩; exact ⟨rfl, (Below.refl _ _).alloc (Nat.le_refl _) _⟩))
    refine And.intro (fun w' hw => ?_) ?_
    · exact quiet_run (by simp [execOp, go_sem, e3])
    refine And.intro (fun w' hw => ?_) ?_
    · have c := Ic2 w' hw 3 (.int .i64 b) rfl
      exact quiet_run (by simp [execOp, go_sem, e32, c])
    refine And.intro (fun w' hw => ?_) ?_
    · exact quiet_run (by simp [execOp, go_sem, e33, hbb])
    refine And.intro (fun w' hw => ?_) ?_
    · exact quiet_enter 103 #[.int .u32 bb, .int .i64 0, .int .i64 5] (by simp [go_sem, e34]) ((CB.out _).mono (by rintro e w'' ⟨rfl, rfl⟩; exact ⟨rfl, (Below.refl _ _).alloc (Nat.le_refl _) _⟩))
    refine And.intro True.intro ?_
    refine And.intro True.intro ?_
    refine And.intro True.intro ?_
    refine And.intro True.intro ?_
    refine And.intro True.intro ?_
    refine And.intro True.intro ?_
    exact True.intro
  · intro r hr
    simp only [List.mem_cons, List.not_mem_nil, or_false] at hr
    rcases hr with rfl | rfl | rfl <;> exact allocP
  · intro r hr
    simp only [List.mem_cons, List.not_mem_nil, or_false] at hr
    generalize hl : lay _ _ _ = af
    have e27 : af.eval (.tmp 27) = .agg #[.int .u32 d5, .int .i64 5] := by rw [← hl]; kernel_rfl
    have e31 : af.eval (.tmp 31) = .agg #[.int .u32 a5, .int .i64 5] := by rw [← hl]; kernel_rfl
    have e35 : af.eval (.tmp 35) = .agg #[.int .u32 b5, .int .i64 5] := by rw [← hl]; kernel_rfl
    clear hl
    rcases hr with rfl | rfl | rfl
    · intro w' b' hb
      rw [e27]
      exact storeP d5 5 w' b' hb
    · intro w' b' hb
      rw [e31]
      exact storeP a5 5 w' b' hb
    · intro w' b' hb
      rw [e35]
      exact storeP b5 5 w' b' hb
  intro β2 W2 hW2 hbl2 hap2
  have q9 := hbl2 _ (by simp : ⟨12, 9, 171, 15, 27, #[.int .u32 0, .int .i64 0], #[.int .u32 d5, .int .i64 5]⟩ ∈ _)
  have q10 := hbl2 _ (by simp : ⟨13, 10, 171, 16, 31, #[.int .u32 0, .int .i64 0], #[.int .u32 a5, .int .i64 5]⟩ ∈ _)
  have q11 := hbl2 _ (by simp : ⟨14, 11, 171, 17, 35, #[.int .u32 0, .int .i64 0], #[.int .u32 b5, .int .i64 5]⟩ ∈ _)
  simp at q9 q10 q11
  simp [putAl, lay, Act.put]
  generalize β2 9 = x9 at *
  generalize β2 10 = x10 at *
  generalize β2 11 = x11 at *
  clear hbl2 hap2 Kc Ic Ic2
  have HB2 : Hid (Below w.heap.size w W2) := below_step (below_step (hkb ▸ HB.out) hW1) hW2
  obtain ⟨c5, _, z5⟩ := cells_of (kept_on q5.2.2 hW2)
  have c50 := c5 0 (.int .u32 o7) rfl
  have c51 := c5 1 (.int .i64 7) rfl
  obtain ⟨c6, _, z6⟩ := cells_of (kept_on q6.2.2 hW2)
  have c60 := c6 0 (.int .u32 g3) rfl
  have c61 := c6 1 (.int .i64 3) rfl
  obtain ⟨c7, _, z7⟩ := cells_of (kept_on q7.2.2 hW2)
  have c70 := c7 0 (.int .u32 f7) rfl
  have c71 := c7 1 (.int .i64 7) rfl
  obtain ⟨c9, _, z9⟩ := cells_of q9.2.2
  have c90 := c9 0 (.int .u32 d5) rfl
  have c91 := c9 1 (.int .i64 5) rfl
  obtain ⟨c10, _, z10⟩ := cells_of q10.2.2
  have c100 := c10 0 (.int .u32 a5) rfl
  have c101 := c10 1 (.int .i64 5) rfl
  obtain ⟨c11, _, z11⟩ := cells_of q11.2.2
  have c110 := c11 0 (.int .u32 b5) rfl
  have c111 := c11 1 (.int .i64 5) rfl
  obtain ⟨ck, _, zk⟩ := cells_of (kept_on k2 hW2)
  have ck1 := ck 1 (.int .i64 la) rfl
  have ck2 := ck 2 (.int .u32 o) rfl
  clear c5 c6 c7 c9 c10 c11 ck q5 q6 q7 q9 q10 q11 k1 k2 i1 i2 hW1 hW2 CO CG CF CD CA CB
  rcases HLA.out with rfl | rfl | rfl | rfl | rfl | rfl | rfl | rfl | rfl
  · go_wp2_with fail
    refine (cjoin_new [(f7, 7), (b5, 5), (a5, 5), (g3, 3), (d5, 5), (o7, 7)] 6 rfl (by omega) (by simp) _).mono ?_
    rintro e w4 ⟨rfl, hb4⟩
    obtain ⟨R, hR⟩ : ∃ R, Hid (joinV [(f7, 7), (b5, 5), (a5, 5), (g3, 3), (d5, 5), (o7, 7)] 0 = R) := ⟨_, rfl⟩
    rw [hR.out]
    go_wp2
    go_ret
    exact ⟨ret_u32 (by simp only [encV, if_true]; rw [hR.out]), below_step HB2.out hb4⟩
  · have Cy52 : Hid _ := ccut mm 0 12 Um.out (by omega) (by omega) (by omega) (by omega)
    obtain ⟨y52, hy52⟩ : ∃ y, Hid (bitsV mm 0 12 = y) := ⟨_, rfl⟩
    rw [hy52.out] at Cy52
    go_wp2_with fail
    refine wp_region_mix_tail 6 [] [.int .u32 mm, .agg #[.int .u32 y52, .int .i64 12], .agg #[.int .u32 a5, .int .i64 5], .agg #[.int .u32 g3, .int .i64 3], .agg #[.int .u32 d5, .int .i64 5], .agg #[.int .u32 o7, .int .i64 7]] hm (by kernel_rfl) (by kernel_rfl) (by intro r hr; cases hr) ?_ (by intro r hr; cases hr) (by intro r hr; cases hr) ?_
    · generalize hl : lay _ _ _ = af
      have e5 : af.tmps[5]?.getD undef = .pointer (some ⟨x5, 0, none⟩) := by rw [← hl]; kernel_rfl
      have e6 : af.tmps[6]?.getD undef = .pointer (some ⟨x6, 0, none⟩) := by rw [← hl]; kernel_rfl
      have e8 : af.tmps[8]?.getD undef = .int .u32 mm := by rw [← hl]; kernel_rfl
      have e9 : af.tmps[9]?.getD undef = .pointer (some ⟨x9, 0, none⟩) := by rw [← hl]; kernel_rfl
      have e10 : af.tmps[10]?.getD undef = .pointer (some ⟨x10, 0, none⟩) := by rw [← hl]; kernel_rfl
      have e51 : af.tmps[51]?.getD undef = .int .u32 mm := by rw [← hl]; kernel_rfl
      clear hl
      refine And.intro (fun w' hw => ?_) ?_
      · exact quiet_run (by simp [execOp, go_sem, e8])
      refine And.intro (fun w' hw => ?_) ?_
      · exact quiet_enter 103 #[.int .u32 mm, .int .i64 0, .int .i64 12] (by simp [go_sem, e51]) ((Cy52.out _).mono (by rintro e w'' ⟨rfl, rfl⟩; exact ⟨rfl, (Below.refl _ _).alloc (Nat.le_refl _) _⟩))
      refine And.intro (fun w' hw => ?_) ?_
      · have c0 := hw.cell (p := ⟨x10, 0, none⟩) z10
        have c1 := hw.cell (p := ⟨x10, 1, none⟩) z10
        rw [c100] at c0
        rw [c101] at c1
        exact quiet_run (by simp [execOp, go_sem, e10, c0, c1])
      refine And.intro (fun w' hw => ?_) ?_
      · have c0 := hw.cell (p := ⟨x6, 0, none⟩) z6
        have c1 := hw.cell (p := ⟨x6, 1, none⟩) z6
        rw [c60] at c0
        rw [c61] at c1
        exact quiet_run (by simp [execOp, go_sem, e6, c0, c1])
      refine And.intro (fun w' hw => ?_) ?_
      · have c0 := hw.cell (p := ⟨x9, 0, none⟩) z9
        have c1 := hw.cell (p := ⟨x9, 1, none⟩) z9
        rw [c90] at c0
        rw [c91] at c1
        exact quiet_run (by simp [execOp, go_sem, e9, c0, c1])
      refine And.intro (fun w' hw => ?_) ?_
      · have c0 := hw.cell (p := ⟨x5, 0, none⟩) z5
        have c1 := hw.cell (p := ⟨x5, 1, none⟩) z5
        rw [c50] at c0
        rw [c51] at c1
        exact quiet_run (by simp [execOp, go_sem, e5, c0, c1])
      exact True.intro
    · intro β3 W3 hW3 _ _
      simp [putAl, lay, Act.put]
      go_wp2_with fail
      refine (cjoin_new [(y52, 12), (a5, 5), (g3, 3), (d5, 5), (o7, 7)] 5 rfl (by omega) (by simp) _).mono ?_
      rintro e w4 ⟨rfl, hb4⟩
      obtain ⟨R, hR⟩ : ∃ R, Hid (joinV [(y52, 12), (a5, 5), (g3, 3), (d5, 5), (o7, 7)] 0 = R) := ⟨_, rfl⟩
      rw [hR.out]
      go_wp2
      go_ret
      exact ⟨ret_u32 (by rw [← hR.out, ← hy52.out]; simp [encV]), below_step (below_step HB2.out hW3) hb4⟩
  · have Cy63 : Hid _ := ccut mm 0 5 Um.out (by omega) (by omega) (by omega) (by omega)
    obtain ⟨y63, hy63⟩ : ∃ y, Hid (bitsV mm 0 5 = y) := ⟨_, rfl⟩
    rw [hy63.out] at Cy63
    go_wp2_with fail
    refine wp_region_mix_tail 7 [] [.agg #[.int .u32 f7, .int .i64 7], .int .u32 mm, .agg #[.int .u32 y63, .int .i64 5], .agg #[.int .u32 a5, .int .i64 5], .agg #[.int .u32 g3, .int .i64 3], .agg #[.int .u32 d5, .int .i64 5], .agg #[.int .u32 o7, .int .i64 7]] hm (by kernel_rfl) (by kernel_rfl) (by intro r hr; cases hr) ?_ (by intro r hr; cases hr) (by intro r hr; cases hr) ?_
    · generalize hl : lay _ _ _ = af
      have e5 : af.tmps[5]?.getD undef = .pointer (some ⟨x5, 0, none⟩) := by rw [← hl]; kernel_rfl
      have e6 : af.tmps[6]?.getD undef = .pointer (some ⟨x6, 0, none⟩) := by rw [← hl]; kernel_rfl
      have e7 : af.tmps[7]?.getD undef = .pointer (some ⟨x7, 0, none⟩) := by rw [← hl]; kernel_rfl
      have e8 : af.tmps[8]?.getD undef = .int .u32 mm := by rw [← hl]; kernel_rfl
      have e9 : af.tmps[9]?.getD undef = .pointer (some ⟨x9, 0, none⟩) := by rw [← hl]; kernel_rfl
      have e10 : af.tmps[10]?.getD undef = .pointer (some ⟨x10, 0, none⟩) := by rw [← hl]; kernel_rfl
      have e62 : af.tmps[62]?.getD undef = .int .u32 mm := by rw [← hl]; kernel_rfl
      clear hl
      refine And.intro (fun w' hw => ?_) ?_
      · have c0 := hw.cell (p := ⟨x7, 0, none⟩) z7
        have c1 := hw.cell (p := ⟨x7, 1, none⟩) z7
        rw [c70] at c0
        rw [c71] at c1
        exact quiet_run (by simp [execOp, go_sem, e7, c0, c1])
      refine And.intro (fun w' hw => ?_) ?_
      · exact quiet_run (by simp [execOp, go_sem, e8])
      refine And.intro (fun w' hw => ?_) ?_
      · exact quiet_enter 103 #[.int .u32 mm, .int .i64 0, .int .i64 5] (by simp [go_sem, e62]) ((Cy63.out _).mono (by rintro e w'' ⟨rfl, rfl⟩; exact ⟨rfl, (Below.refl _ _).alloc (Nat.le_refl _) _⟩))
      refine And.intro (fun w' hw => ?_) ?_
      · have c0 := hw.cell (p := ⟨x10, 0, none⟩) z10
        have c1 := hw.cell (p := ⟨x10, 1, none⟩) z10
        rw [c100] at c0
        rw [c101] at c1
        exact quiet_run (by simp [execOp, go_sem, e10, c0, c1])
      refine And.intro (fun w' hw => ?_) ?_
      · have c0 := hw.cell (p := ⟨x6, 0, none⟩) z6
        have c1 := hw.cell (p := ⟨x6, 1, none⟩) z6
        rw [c60] at c0
        rw [c61] at c1
        exact quiet_run (by simp [execOp, go_sem, e6, c0, c1])
      refine And.intro (fun w' hw => ?_) ?_
      · have c0 := hw.cell (p := ⟨x9, 0, none⟩) z9
        have c1 := hw.cell (p := ⟨x9, 1, none⟩) z9
        rw [c90] at c0
        rw [c91] at c1
        exact quiet_run (by simp [execOp, go_sem, e9, c0, c1])
      refine And.intro (fun w' hw => ?_) ?_
      · have c0 := hw.cell (p := ⟨x5, 0, none⟩) z5
        have c1 := hw.cell (p := ⟨x5, 1, none⟩) z5
        rw [c50] at c0
        rw [c51] at c1
        exact quiet_run (by simp [execOp, go_sem, e5, c0, c1])
      exact True.intro
    · intro β3 W3 hW3 _ _
      simp [putAl, lay, Act.put]
      go_wp2_with fail
      refine (cjoin_new [(f7, 7), (y63, 5), (a5, 5), (g3, 3), (d5, 5), (o7, 7)] 6 rfl (by omega) (by simp) _).mono ?_
      rintro e w4 ⟨rfl, hb4⟩
      obtain ⟨R, hR⟩ : ∃ R, Hid (joinV [(f7, 7), (y63, 5), (a5, 5), (g3, 3), (d5, 5), (o7, 7)] 0 = R) := ⟨_, rfl⟩
      rw [hR.out]
      go_wp2
      go_ret
      exact ⟨ret_u32 (by rw [← hR.out, ← hy63.out]; simp [encV]), below_step (below_step HB2.out hW3) hb4⟩
  · have Cy73 : Hid _ := ccut mm 5 7 Um.out (by omega) (by omega) (by omega) (by omega)
    obtain ⟨y73, hy73⟩ : ∃ y, Hid (bitsV mm 5 7 = y) := ⟨_, rfl⟩
    rw [hy73.out] at Cy73
    have Cy78 : Hid _ := ccut mm 0 5 Um.out (by omega) (by omega) (by omega) (by omega)
    obtain ⟨y78, hy78⟩ : ∃ y, Hid (bitsV mm 0 5 = y) := ⟨_, rfl⟩
    rw [hy78.out] at Cy78
    go_wp2_with fail
    refine wp_region_mix_tail 8 [] [.int .u32 mm, .agg #[.int .u32 y73, .int .i64 7], .agg #[.int .u32 b5, .int .i64 5], .agg #[.int .u32 a5, .int .i64 5], .agg #[.int .u32 g3, .int .i64 3], .int .u32 mm, .agg #[.int .u32 y78, .int .i64 5], .agg #[.int .u32 o7, .int .i64 7]] hm (by kernel_rfl) (by kernel_rfl) (by intro r hr; cases hr) ?_ (by intro r hr; cases hr) (by intro r hr; cases hr) ?_
    · generalize hl : lay _ _ _ = af
      have e5 : af.tmps[5]?.getD undef = .pointer (some ⟨x5, 0, none⟩) := by rw [← hl]; kernel_rfl
      have e6 : af.tmps[6]?.getD undef = .pointer (some ⟨x6, 0, none⟩) := by rw [← hl]; kernel_rfl
      have e8 : af.tmps[8]?.getD undef = .int .u32 mm := by rw [← hl]; kernel_rfl
      have e10 : af.tmps[10]?.getD undef = .pointer (some ⟨x10, 0, none⟩) := by rw [← hl]; kernel_rfl
      have e11 : af.tmps[11]?.getD undef = .pointer (some ⟨x11, 0, none⟩) := by rw [← hl]; kernel_rfl
      have e72 : af.tmps[72]?.getD undef = .int .u32 mm := by rw [← hl]; kernel_rfl
      have e77 : af.tmps[77]?.getD undef = .int .u32 mm := by rw [← hl]; kernel_rfl
      clear hl
      refine And.intro (fun w' hw => ?_) ?_
      · exact quiet_run (by simp [execOp, go_sem, e8])
      refine And.intro (fun w' hw => ?_) ?_
      · exact quiet_enter 103 #[.int .u32 mm, .int .i64 5, .int .i64 7] (by simp [go_sem, e72]) ((Cy73.out _).mono (by rintro e w'' ⟨rfl, rfl⟩; exact ⟨rfl, (Below.refl _ _).alloc (Nat.le_refl _) _⟩))
      refine And.intro (fun w' hw => ?_) ?_
      · have c0 := hw.cell (p := ⟨x11, 0, none⟩) z11
        have c1 := hw.cell (p := ⟨x11, 1, none⟩) z11
        rw [c110] at c0
        rw [c111] at c1
        exact quiet_run (by simp [execOp, go_sem, e11, c0, c1])
      refine And.intro (fun w' hw => ?_) ?_
      · have c0 := hw.cell (p := ⟨x10, 0, none⟩) z10
        have c1 := hw.cell (p := ⟨x10, 1, none⟩) z10
        rw [c100] at c0
        rw [c101] at c1
        exact quiet_run (by simp [execOp, go_sem, e10, c0, c1])
      refine And.intro (fun w' hw => ?_) ?_
      · have c0 := hw.cell (p := ⟨x6, 0, none⟩) z6
        have c1 := hw.cell (p := ⟨x6, 1, none⟩) z6
        rw [c60] at c0
        rw [c61] at c1
        exact quiet_run (by simp [execOp, go_sem, e6, c0, c1])
      refine And.intro (fun w' hw => ?_) ?_
      · exact quiet_run (by simp [execOp, go_sem, e8])
      refine And.intro (fun w' hw => ?_) ?_
      · exact quiet_enter 103 #[.int .u32 mm, .int .i64 0, .int .i64 5] (by simp [go_sem, e77]) ((Cy78.out _).mono (by rintro e w'' ⟨rfl, rfl⟩; exact ⟨rfl, (Below.refl _ _).alloc (Nat.le_refl _) _⟩))
      refine And.intro (fun w' hw => ?_) ?_
      · have c0 := hw.cell (p := ⟨x5, 0, none⟩) z5
        have c1 := hw.cell (p := ⟨x5, 1, none⟩) z5
        rw [c50] at c0
        rw [c51] at c1
        exact quiet_run (by simp [execOp, go_sem, e5, c0, c1])
      exact True.intro
    · intro β3 W3 hW3 _ _
      simp [putAl, lay, Act.put]
      go_wp2_with fail
      refine (cjoin_new [(y73, 7), (b5, 5), (a5, 5), (g3, 3), (y78, 5), (o7, 7)] 6 rfl (by omega) (by simp) _).mono ?_
      rintro e w4 ⟨rfl, hb4⟩
      obtain ⟨R, hR⟩ : ∃ R, Hid (joinV [(y73, 7), (b5, 5), (a5, 5), (g3, 3), (y78, 5), (o7, 7)] 0 = R) := ⟨_, rfl⟩
      rw [hR.out]
      go_wp2
      go_ret
      exact ⟨ret_u32 (by rw [← hR.out, ← hy73.out, ← hy78.out]; simp [encV]), below_step (below_step HB2.out hW3) hb4⟩
  · have Cy85 : Hid _ := ccut mm 12 1 Um.out (by omega) (by omega) (by omega) (by omega)
    obtain ⟨y85, hy85⟩ : ∃ y, Hid (bitsV mm 12 1 = y) := ⟨_, rfl⟩
    rw [hy85.out] at Cy85
    have Cy87 : Hid _ := ccut mm 5 6 Um.out (by omega) (by omega) (by omega) (by omega)
    obtain ⟨y87, hy87⟩ : ∃ y, Hid (bitsV mm 5 6 = y) := ⟨_, rfl⟩
    rw [hy87.out] at Cy87
    have Cy92 : Hid _ := ccut mm 1 4 Um.out (by omega) (by omega) (by omega) (by omega)
    obtain ⟨y92, hy92⟩ : ∃ y, Hid (bitsV mm 1 4 = y) := ⟨_, rfl⟩
    rw [hy92.out] at Cy92
    have Cy94 : Hid _ := ccut mm 11 1 Um.out (by omega) (by omega) (by omega) (by omega)
    obtain ⟨y94, hy94⟩ : ∃ y, Hid (bitsV mm 11 1 = y) := ⟨_, rfl⟩
    rw [hy94.out] at Cy94
    go_wp2_with fail
    refine wp_region_mix_tail 12 [] [.int .u32 mm, .agg #[.int .u32 y85, .int .i64 1], .int .u32 mm, .agg #[.int .u32 y87, .int .i64 6], .agg #[.int .u32 b5, .int .i64 5], .agg #[.int .u32 a5, .int .i64 5], .agg #[.int .u32 g3, .int .i64 3], .int .u32 mm, .agg #[.int .u32 y92, .int .i64 4], .int .u32 mm, .agg #[.int .u32 y94, .int .i64 1], .agg #[.int .u32 o7, .int .i64 7]] hm (by kernel_rfl) (by kernel_rfl) (by intro r hr; cases hr) ?_ (by intro r hr; cases hr) (by intro r hr; cases hr) ?_
    · generalize hl : lay _ _ _ = af
      have e5 : af.tmps[5]?.getD undef = .pointer (some ⟨x5, 0, none⟩) := by rw [← hl]; kernel_rfl
      have e6 : af.tmps[6]?.getD undef = .pointer (some ⟨x6, 0, none⟩) := by rw [← hl]; kernel_rfl
      have e8 : af.tmps[8]?.getD undef = .int .u32 mm := by rw [← hl]; kernel_rfl
      have e10 : af.tmps[10]?.getD undef = .pointer (some ⟨x10, 0, none⟩) := by rw [← hl]; kernel_rfl
      have e11 : af.tmps[11]?.getD undef = .pointer (some ⟨x11, 0, none⟩) := by rw [← hl]; kernel_rfl
      have e84 : af.tmps[84]?.getD undef = .int .u32 mm := by rw [← hl]; kernel_rfl
      have e86 : af.tmps[86]?.getD undef = .int .u32 mm := by rw [← hl]; kernel_rfl
      have e91 : af.tmps[91]?.getD undef = .int .u32 mm := by rw [← hl]; kernel_rfl
      have e93 : af.tmps[93]?.getD undef = .int .u32 mm := by rw [← hl]; kernel_rfl
      clear hl
      refine And.intro (fun w' hw => ?_) ?_
      · exact quiet_run (by simp [execOp, go_sem, e8])
      refine And.intro (fun w' hw => ?_) ?_
      · exact quiet_enter 103 #[.int .u32 mm, .int .i64 12, .int .i64 1] (by simp [go_sem, e84]) ((Cy85.out _).mono (by rintro e w'' ⟨rfl, rfl⟩; exact ⟨rfl, (Below.refl _ _).alloc (Nat.le_refl _) _⟩))
      refine And.intro (fun w' hw => ?_) ?_
      · exact quiet_run (by simp [execOp, go_sem, e8])
      refine And.intro (fun w' hw => ?_) ?_
      · exact quiet_enter 103 #[.int .u32 mm, .int .i64 5, .int .i64 6] (by simp [go_sem, e86]) ((Cy87.out _).mono (by rintro e w'' ⟨rfl, rfl⟩; exact ⟨rfl, (Below.refl _ _).alloc (Nat.le_refl _) _⟩))
      refine And.intro (fun w' hw => ?_) ?_
      · have c0 := hw.cell (p := ⟨x11, 0, none⟩) z11
        have c1 := hw.cell (p := ⟨x11, 1, none⟩) z11
        rw [c110] at c0
        rw [c111] at c1
        exact quiet_run (by simp [execOp, go_sem, e11, c0, c1])
      refine And.intro (fun w' hw => ?_) ?_
      · have c0 := hw.cell (p := ⟨x10, 0, none⟩) z10
        have c1 := hw.cell (p := ⟨x10, 1, none⟩) z10
        rw [c100] at c0
        rw [c101] at c1
        exact quiet_run (by simp [execOp, go_sem, e10, c0, c1])
      refine And.intro (fun w' hw => ?_) ?_
      · have c0 := hw.cell (p := ⟨x6, 0, none⟩) z6
        have c1 := hw.cell (p := ⟨x6, 1, none⟩) z6
        rw [c60] at c0
        rw [c61] at c1
        exact quiet_run (by simp [execOp, go_sem, e6, c0, c1])
      refine And.intro (fun w' hw => ?_) ?_
      · exact quiet_run (by simp [execOp, go_sem, e8])
      refine And.intro (fun w' hw => ?_) ?_
      · exact quiet_enter 103 #[.int .u32 mm, .int .i64 1, .int .i64 4] (by simp [go_sem, e91]) ((Cy92.out _).mono (by rintro e w'' ⟨rfl, rfl⟩; exact ⟨rfl, (Below.refl _ _).alloc (Nat.le_refl _) _⟩))
      refine And.intro (fun w' hw => ?_) ?_
      · exact quiet_run (by simp [execOp, go_sem, e8])
      refine And.intro (fun w' hw => ?_) ?_
      · exact quiet_enter 103 #[.int .u32 mm, .int .i64 11, .int .i64 1] (by simp [go_sem, e93]) ((Cy94.out _).mono (by rintro e w'' ⟨rfl, rfl⟩; exact ⟨rfl, (Below.refl _ _).alloc (Nat.le_refl _) _⟩))
      refine And.intro (fun w' hw => ?_) ?_
      · have c0 := hw.cell (p := ⟨x5, 0, none⟩) z5
        have c1 := hw.cell (p := ⟨x5, 1, none⟩) z5
        rw [c50] at c0
        rw [c51] at c1
        exact quiet_run (by simp [execOp, go_sem, e5, c0, c1])
      exact True.intro
    · intro β3 W3 hW3 _ _
      simp [putAl, lay, Act.put]
      go_wp2_with fail
      refine (cjoin_new [(y85, 1), (y87, 6), (b5, 5), (a5, 5), (g3, 3), (y92, 4), (y94, 1), (o7, 7)] 8 rfl (by omega) (by simp) _).mono ?_
      rintro e w4 ⟨rfl, hb4⟩
      obtain ⟨R, hR⟩ : ∃ R, Hid (joinV [(y85, 1), (y87, 6), (b5, 5), (a5, 5), (g3, 3), (y92, 4), (y94, 1), (o7, 7)] 0 = R) := ⟨_, rfl⟩
      rw [hR.out]
      go_wp2
      go_ret
      exact ⟨ret_u32 (by rw [← hR.out, ← hy85.out, ← hy87.out, ← hy92.out, ← hy94.out]; simp [encV]), below_step (below_step HB2.out hW3) hb4⟩
  · have Cy101 : Hid _ := ccut mm 0 20 Um.out (by omega) (by omega) (by omega) (by omega)
    obtain ⟨y101, hy101⟩ : ∃ y, Hid (bitsV mm 0 20 = y) := ⟨_, rfl⟩
    rw [hy101.out] at Cy101
    go_wp2_with fail
    refine wp_region_mix_tail 4 [] [.int .u32 mm, .agg #[.int .u32 y101, .int .i64 20], .agg #[.int .u32 d5, .int .i64 5], .agg #[.int .u32 o7, .int .i64 7]] hm (by kernel_rfl) (by kernel_rfl) (by intro r hr; cases hr) ?_ (by intro r hr; cases hr) (by intro r hr; cases hr) ?_
    · generalize hl : lay _ _ _ = af
      have e5 : af.tmps[5]?.getD undef = .pointer (some ⟨x5, 0, none⟩) := by rw [← hl]; kernel_rfl
      have e8 : af.tmps[8]?.getD undef = .int .u32 mm := by rw [← hl]; kernel_rfl
      have e9 : af.tmps[9]?.getD undef = .pointer (some ⟨x9, 0, none⟩) := by rw [← hl]; kernel_rfl
      have e100 : af.tmps[100]?.getD undef = .int .u32 mm := by rw [← hl]; kernel_rfl
      clear hl
      refine And.intro (fun w' hw => ?_) ?_
      · exact quiet_run (by simp [execOp, go_sem, e8])
      refine And.intro (fun w' hw => ?_) ?_
      · exact quiet_enter 103 #[.int .u32 mm, .int .i64 0, .int .i64 20] (by simp [go_sem, e100]) ((Cy101.out _).mono (by rintro e w'' ⟨rfl, rfl⟩; exact ⟨rfl, (Below.refl _ _).alloc (Nat.le_refl _) _⟩))
      refine And.intro (fun w' hw => ?_) ?_
      · have c0 := hw.cell (p := ⟨x9, 0, none⟩) z9
        have c1 := hw.cell (p := ⟨x9, 1, none⟩) z9
        rw [c90] at c0
        rw [c91] at c1
        exact quiet_run (by simp [execOp, go_sem, e9, c0, c1])
      refine And.intro (fun w' hw => ?_) ?_
      · have c0 := hw.cell (p := ⟨x5, 0, none⟩) z5
        have c1 := hw.cell (p := ⟨x5, 1, none⟩) z5
        rw [c50] at c0
        rw [c51] at c1
        exact quiet_run (by simp [execOp, go_sem, e5, c0, c1])
      exact True.intro
    · intro β3 W3 hW3 _ _
      simp [putAl, lay, Act.put]
      go_wp2_with fail
      refine (cjoin_new [(y101, 20), (d5, 5), (o7, 7)] 3 rfl (by omega) (by simp) _).mono ?_
      rintro e w4 ⟨rfl, hb4⟩
      obtain ⟨R, hR⟩ : ∃ R, Hid (joinV [(y101, 20), (d5, 5), (o7, 7)] 0 = R) := ⟨_, rfl⟩
      rw [hR.out]
      go_wp2
      go_ret
      exact ⟨ret_u32 (by rw [← hR.out, ← hy101.out]; simp [encV]), below_step (below_step HB2.out hW3) hb4⟩
  · have Cy109 : Hid _ := ccut mm 20 1 Um.out (by omega) (by omega) (by omega) (by omega)
    obtain ⟨y109, hy109⟩ : ∃ y, Hid (bitsV mm 20 1 = y) := ⟨_, rfl⟩
    rw [hy109.out] at Cy109
    have Cy111 : Hid _ := ccut mm 1 10 Um.out (by omega) (by omega) (by omega) (by omega)
    obtain ⟨y111, hy111⟩ : ∃ y, Hid (bitsV mm 1 10 = y) := ⟨_, rfl⟩
    rw [hy111.out] at Cy111
    have Cy113 : Hid _ := ccut mm 11 1 Um.out (by omega) (by omega) (by omega) (by omega)
    obtain ⟨y113, hy113⟩ : ∃ y, Hid (bitsV mm 11 1 = y) := ⟨_, rfl⟩
    rw [hy113.out] at Cy113
    have Cy115 : Hid _ := ccut mm 12 8 Um.out (by omega) (by omega) (by omega) (by omega)
    obtain ⟨y115, hy115⟩ : ∃ y, Hid (bitsV mm 12 8 = y) := ⟨_, rfl⟩
    rw [hy115.out] at Cy115
    go_wp2_with fail
    refine wp_region_mix_tail 10 [] [.int .u32 mm, .agg #[.int .u32 y109, .int .i64 1], .int .u32 mm, .agg #[.int .u32 y111, .int .i64 10], .int .u32 mm, .agg #[.int .u32 y113, .int .i64 1], .int .u32 mm, .agg #[.int .u32 y115, .int .i64 8], .agg #[.int .u32 d5, .int .i64 5], .agg #[.int .u32 o7, .int .i64 7]] hm (by kernel_rfl) (by kernel_rfl) (by intro r hr; cases hr) ?_ (by intro r hr; cases hr) (by intro r hr; cases hr) ?_
    · generalize hl : lay _ _ _ = af
      have e5 : af.tmps[5]?.getD undef = .pointer (some ⟨x5, 0, none⟩) := by rw [← hl]; kernel_rfl
      have e8 : af.tmps[8]?.getD undef = .int .u32 mm := by rw [← hl]; kernel_rfl
      have e9 : af.tmps[9]?.getD undef = .pointer (some ⟨x9, 0, none⟩) := by rw [← hl]; kernel_rfl
      have e108 : af.tmps[108]?.getD undef = .int .u32 mm := by rw [← hl]; kernel_rfl
      have e110 : af.tmps[110]?.getD undef = .int .u32 mm := by rw [← hl]; kernel_rfl
      have e112 : af.tmps[112]?.getD undef = .int .u32 mm := by rw [← hl]; kernel_rfl
      have e114 : af.tmps[114]?.getD undef = .int .u32 mm := by rw [← hl]; kernel_rfl
      clear hl
      refine And.intro (fun w' hw => ?_) ?_
      · exact quiet_run (by simp [execOp, go_sem, e8])
      refine And.intro (fun w' hw => ?_) ?_
      · exact quiet_enter 103 #[.int .u32 mm, .int .i64 20, .int .i64 1] (by simp [go_sem, e108]) ((Cy109.out _).mono (by rintro e w'' ⟨rfl, rfl⟩; exact ⟨rfl, (Below.refl _ _).alloc (Nat.le_refl _) _⟩))
      refine And.intro (fun w' hw => ?_) ?_
      · exact quiet_run (by simp [execOp, go_sem, e8])
      refine And.intro (fun w' hw => ?_) ?_
      · exact quiet_enter 103 #[.int .u32 mm, .int .i64 1, .int .i64 10] (by simp [go_sem, e110]) ((Cy111.out _).mono (by rintro e w'' ⟨rfl, rfl⟩; exact ⟨rfl, (Below.refl _ _).alloc (Nat.le_refl _) _⟩))
      refine And.intro (fun w' hw => ?_) ?_
      · exact quiet_run (by simp [execOp, go_sem, e8])
      refine And.intro (fun w' hw => ?_) ?_
      · exact quiet_enter 103 #[.int .u32 mm, .int .i64 11, .int .i64 1] (by simp [go_sem, e112]) ((Cy113.out _).mono (by rintro e w'' ⟨rfl, rfl⟩; exact ⟨rfl, (Below.refl _ _).alloc (Nat.le_refl _) _⟩))
      refine And.intro (fun w' hw => ?_) ?_
      · exact quiet_run (by simp [execOp, go_sem, e8])
      refine And.intro (fun w' hw => ?_) ?_
      · exact quiet_enter 103 #[.int .u32 mm, .int .i64 12, .int .i64 8] (by simp [go_sem, e114]) ((Cy115.out _).mono (by rintro e w'' ⟨rfl, rfl⟩; exact ⟨rfl, (Below.refl _ _).alloc (Nat.le_refl _) _⟩))
      refine And.intro (fun w' hw => ?_) ?_
      · have c0 := hw.cell (p := ⟨x9, 0, none⟩) z9
        have c1 := hw.cell (p := ⟨x9, 1, none⟩) z9
        rw [c90] at c0
        rw [c91] at c1
        exact quiet_run (by simp [execOp, go_sem, e9, c0, c1])
      refine And.intro (fun w' hw => ?_) ?_
      · have c0 := hw.cell (p := ⟨x5, 0, none⟩) z5
        have c1 := hw.cell (p := ⟨x5, 1, none⟩) z5
        rw [c50] at c0
        rw [c51] at c1
        exact quiet_run (by simp [execOp, go_sem, e5, c0, c1])
      exact True.intro
    · intro β3 W3 hW3 _ _
      simp [putAl, lay, Act.put]
      go_wp2_with fail
      refine (cjoin_new [(y109, 1), (y111, 10), (y113, 1), (y115, 8), (d5, 5), (o7, 7)] 6 rfl (by omega) (by simp) _).mono ?_
      rintro e w4 ⟨rfl, hb4⟩
      obtain ⟨R, hR⟩ : ∃ R, Hid (joinV [(y109, 1), (y111, 10), (y113, 1), (y115, 8), (d5, 5), (o7, 7)] 0 = R) := ⟨_, rfl⟩
      rw [hR.out]
      go_wp2
      go_ret
      exact ⟨ret_u32 (by rw [← hR.out, ← hy109.out, ← hy111.out, ← hy113.out, ← hy115.out]; simp [encV]), below_step (below_step HB2.out hW3) hb4⟩
  · have Cy52 : Hid _ := ccut mm 0 12 Um.out (by omega) (by omega) (by omega) (by omega)
    obtain ⟨y52, hy52⟩ : ∃ y, Hid (bitsV mm 0 12 = y) := ⟨_, rfl⟩
    rw [hy52.out] at Cy52
    go_wp2_with fail
    refine wp_region_mix_tail 6 [] [.int .u32 mm, .agg #[.int .u32 y52, .int .i64 12], .agg #[.int .u32 a5, .int .i64 5], .agg #[.int .u32 g3, .int .i64 3], .agg #[.int .u32 d5, .int .i64 5], .agg #[.int .u32 o7, .int .i64 7]] hm (by kernel_rfl) (by kernel_rfl) (by intro r hr; cases hr) ?_ (by intro r hr; cases hr) (by intro r hr; cases hr) ?_
    · generalize hl : lay _ _ _ = af
      have e5 : af.tmps[5]?.getD undef = .pointer (some ⟨x5, 0, none⟩) := by rw [← hl]; kernel_rfl
      have e6 : af.tmps[6]?.getD undef = .pointer (some ⟨x6, 0, none⟩) := by rw [← hl]; kernel_rfl
      have e8 : af.tmps[8]?.getD undef = .int .u32 mm := by rw [← hl]; kernel_rfl
      have e9 : af.tmps[9]?.getD undef = .pointer (some ⟨x9, 0, none⟩) := by rw [← hl]; kernel_rfl
      have e10 : af.tmps[10]?.getD undef = .pointer (some ⟨x10, 0, none⟩) := by rw [← hl]; kernel_rfl
      have e51 : af.tmps[51]?.getD undef = .int .u32 mm := by rw [← hl]; kernel_rfl
      clear hl
      refine And.intro (fun w' hw => ?_) ?_
      · exact quiet_run (by simp [execOp, go_sem, e8])
      refine And.intro (fun w' hw => ?_) ?_
      · exact quiet_enter 103 #[.int .u32 mm, .int .i64 0, .int .i64 12] (by simp [go_sem, e51]) ((Cy52.out _).mono (by rintro e w'' ⟨rfl, rfl⟩; exact ⟨rfl, (Below.refl _ _).alloc (Nat.le_refl _) _⟩))
      refine And.intro (fun w' hw => ?_) ?_
      · have c0 := hw.cell (p := ⟨x10, 0, none⟩) z10
        have c1 := hw.cell (p := ⟨x10, 1, none⟩) z10
        rw [c100] at c0
        rw [c101] at c1
        exact quiet_run (by simp [execOp, go_sem, e10, c0, c1])
      refine And.intro (fun w' hw => ?_) ?_
      · have c0 := hw.cell (p := ⟨x6, 0, none⟩) z6
        have c1 := hw.cell (p := ⟨x6, 1, none⟩) z6
        rw [c60] at c0
        rw [c61] at c1
        exact quiet_run (by simp [execOp, go_sem, e6, c0, c1])
      refine And.intro (fun w' hw => ?_) ?_
      · have c0 := hw.cell (p := ⟨x9, 0, none⟩) z9
        have c1 := hw.cell (p := ⟨x9, 1, none⟩) z9
        rw [c90] at c0
        rw [c91] at c1
        exact quiet_run (by simp [execOp, go_sem, e9, c0, c1])
      refine And.intro (fun w' hw => ?_) ?_
      · have c0 := hw.cell (p := ⟨x5, 0, none⟩) z5
        have c1 := hw.cell (p := ⟨x5, 1, none⟩) z5
        rw [c50] at c0
        rw [c51] at c1
        exact quiet_run (by simp [execOp, go_sem, e5, c0, c1])
      exact True.intro
    · intro β3 W3 hW3 _ _
      simp [putAl, lay, Act.put]
      go_wp2_with fail
      refine (cjoin_new [(y52, 12), (a5, 5), (g3, 3), (d5, 5), (o7, 7)] 5 rfl (by omega) (by simp) _).mono ?_
      rintro e w4 ⟨rfl, hb4⟩
      obtain ⟨R, hR⟩ : ∃ R, Hid (joinV [(y52, 12), (a5, 5), (g3, 3), (d5, 5), (o7, 7)] 0 = R) := ⟨_, rfl⟩
      rw [hR.out]
      go_wp2
      go_ret
      exact ⟨ret_u32 (by rw [← hR.out, ← hy52.out]; simp [encV]), below_step (below_step HB2.out hW3) hb4⟩
  · go_wp2
    go_ret
    exact ⟨ret_u32 (by simp [encV]), hkb ▸ HB2.out⟩
end Go.Proofs.Ytpjnefnngmlpjaa
