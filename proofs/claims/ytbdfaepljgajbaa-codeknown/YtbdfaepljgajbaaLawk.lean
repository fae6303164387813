/-
  CodeKnown: words that are known.
-/
import Derived.Test.YtbdfaepljgajbaaLawb
import Derived.Test.YtbdfaepljgajbaaLawo
import Derived.StillTailTactics
namespace Go.Proofs.Ytbdfaepljgajbaa
open Go.RowKit

def knS : Nat → ByteArray
  | 0 => ⟨#[101, 99, 97, 108, 108]⟩
  | 1 => ⟨#[101, 98, 114, 101, 97, 107]⟩
  | 2 => ⟨#[109, 114, 101, 116]⟩
  | 3 => ⟨#[119, 102, 105]⟩
  | 4 => ⟨#[102, 101, 110, 99, 101]⟩
  | 5 => ⟨#[97, 100, 100]⟩
  | 6 => ⟨#[108, 119]⟩
  | 7 => ⟨#[115, 119]⟩
  | 8 => ⟨#[98, 101, 113]⟩
  | 9 => ⟨#[106, 97, 108]⟩
  | 10 => ⟨#[108, 117, 105]⟩
  | 11 => ⟨#[99, 115, 114, 114, 119]⟩
  | 12 => ⟨#[115, 114, 97, 105]⟩
  | _ => ⟨#[109, 117, 108]⟩
def knD : Nat → Int
  | 0 => 0
  | 1 => 0
  | 2 => 0
  | 3 => 0
  | 4 => 0
  | 5 => 3
  | 6 => 5
  | 7 => 0
  | 8 => 0
  | 9 => 1
  | 10 => 7
  | 11 => 0
  | 12 => 4
  | _ => 10
def knA : Nat → Int
  | 0 => 0
  | 1 => 0
  | 2 => 0
  | 3 => 0
  | 4 => 0
  | 5 => 1
  | 6 => 2
  | 7 => 2
  | 8 => 1
  | 9 => 0
  | 10 => 0
  | 11 => 5
  | 12 => 4
  | _ => 11
def knB : Nat → Int
  | 0 => 0
  | 1 => 0
  | 2 => 0
  | 3 => 0
  | 4 => 0
  | 5 => 2
  | 6 => 0
  | 7 => 5
  | 8 => 0
  | 9 => 0
  | 10 => 0
  | 11 => 0
  | 12 => 0
  | _ => 12
def knM : Nat → Int
  | 0 => 0
  | 1 => 0
  | 2 => 0
  | 3 => 0
  | 4 => 0
  | 5 => 0
  | 6 => -4
  | 7 => 8
  | 8 => -8
  | 9 => 2048
  | 10 => 74565
  | 11 => 773
  | 12 => 31
  | _ => 0
def knW : Nat → Int
  | 0 => 115
  | 1 => 1048691
  | 2 => 807403635
  | 3 => 273678451
  | 4 => 15
  | 5 => 2130355
  | 6 => 4290847363
  | 7 => 5317667
  | 8 => 4261448931
  | 9 => 1048815
  | 10 => 305419191
  | 11 => 810717299
  | 12 => 1106399763
  | _ => 46499123

def knL : List Value := [.string ⟨#[101, 99, 97, 108, 108]⟩, .int .i64 0, .int .i64 0, .int .i64 0, .int .i32 (0), .string ⟨#[101, 98, 114, 101, 97, 107]⟩, .int .i64 0, .int .i64 0, .int .i64 0, .int .i32 (0), .string ⟨#[109, 114, 101, 116]⟩, .int .i64 0, .int .i64 0, .int .i64 0, .int .i32 (0), .string ⟨#[119, 102, 105]⟩, .int .i64 0, .int .i64 0, .int .i64 0, .int .i32 (0), .string ⟨#[102, 101, 110, 99, 101]⟩, .int .i64 0, .int .i64 0, .int .i64 0, .int .i32 (0), .string ⟨#[97, 100, 100]⟩, .int .i64 3, .int .i64 1, .int .i64 2, .int .i32 (0), .string ⟨#[108, 119]⟩, .int .i64 5, .int .i64 2, .int .i64 0, .int .i32 (-4), .string ⟨#[115, 119]⟩, .int .i64 0, .int .i64 2, .int .i64 5, .int .i32 (8), .string ⟨#[98, 101, 113]⟩, .int .i64 0, .int .i64 1, .int .i64 0, .int .i32 (-8), .string ⟨#[106, 97, 108]⟩, .int .i64 1, .int .i64 0, .int .i64 0, .int .i32 (2048), .string ⟨#[108, 117, 105]⟩, .int .i64 7, .int .i64 0, .int .i64 0, .int .i32 (74565), .string ⟨#[99, 115, 114, 114, 119]⟩, .int .i64 0, .int .i64 5, .int .i64 0, .int .i32 (773), .string ⟨#[115, 114, 97, 105]⟩, .int .i64 4, .int .i64 4, .int .i64 0, .int .i32 (31), .string ⟨#[109, 117, 108]⟩, .int .i64 10, .int .i64 11, .int .i64 12, .int .i32 (0)]
def knX : List Value := [.int .u32 115, .int .u32 1048691, .int .u32 807403635, .int .u32 273678451, .int .u32 15, .int .u32 2130355, .int .u32 4290847363, .int .u32 5317667, .int .u32 4261448931, .int .u32 1048815, .int .u32 305419191, .int .u32 810717299, .int .u32 1106399763, .int .u32 46499123]
set_option maxRecDepth 100000 in
theorem kn_cells (k : Nat) (h : k < 14) : knL[k * 5]? = some (.string (knS k)) ∧ knL[k * 5 + 1]? = some (.int .i64 (knD k)) ∧ knL[k * 5 + 2]? = some (.int .i64 (knA k)) ∧ knL[k * 5 + 3]? = some (.int .i64 (knB k)) ∧ knL[k * 5 + 4]? = some (.int .i32 (knM k)) ∧ knX[k]? = some (.int .u32 (knW k)) := by
  have h' : k = 0 ∨ k = 1 ∨ k = 2 ∨ k = 3 ∨ k = 4 ∨ k = 5 ∨ k = 6 ∨ k = 7 ∨ k = 8 ∨ k = 9 ∨ k = 10 ∨ k = 11 ∨ k = 12 ∨ k = 13 := by omega
  rcases h' with rfl | rfl | rfl | rfl | rfl | rfl | rfl | rfl | rfl | rfl | rfl | rfl | rfl | rfl <;> exact ⟨rfl, rfl, rfl, rfl, rfl, rfl⟩
theorem kn_put (k : Nat) (h : k < 14) : mayV ⟨(knS k).toList, knD k, knA k, knB k, knM k⟩ = true ∧ putV ⟨(knS k).toList, knD k, knA k, knB k, knM k⟩ = knW k ∧ 0 ≤ knW k ∧ knW k < 4294967296 := by
  have h' : k = 0 ∨ k = 1 ∨ k = 2 ∨ k = 3 ∨ k = 4 ∨ k = 5 ∨ k = 6 ∨ k = 7 ∨ k = 8 ∨ k = 9 ∨ k = 10 ∨ k = 11 ∨ k = 12 ∨ k = 13 := by omega
  rcases h' with rfl | rfl | rfl | rfl | rfl | rfl | rfl | rfl | rfl | rfl | rfl | rfl | rfl | rfl <;> decide +kernel

theorem wp_region_tail {P : Program} {id : Nat} {Q : Exit → Act → World → Prop} {a : Act} {w : World} {l : List Oper} (n : Nat) (hm : P.follows .mixedOrders = true) (hB : Region.lexTailB .any l.toArray n = true)
    (h : wpStill P l.toArray w.drew (fun a' => wpList P l.toArray Q (l.drop n) a' w.drew) (l.take n) a) : (Code.region id l.toArray true).wp P Q a w := wp_region_still_tail n hm hB h

set_option maxRecDepth 100000 in
set_option maxHeartbeats 4000000 in
theorem codeKnown (c : Int) (hc : 0 ≤ c ∧ c ≤ 255) (w : World) :
    Calls Try.prog 6 #[.int .u8 c] w fun e w' => e = .returned (.bool true) ∧ Below w.heap.size w w' := by
  have hm : Try.prog.follows .mixedOrders = true := by kernel_rfl
  obtain ⟨hc0, hc1⟩ := hc
  have k0 : 0 ≤ c % 14 := by omega
  have k1 : c % 14 < 14 := by omega
  generalize hk : c % 14 = k at *
  obtain ⟨l0, l1, l2, l3, l4, x0⟩ := kn_cells k.toNat (by omega)
  obtain ⟨p1, p2, p3, p4⟩ := kn_put k.toNat (by omega)
  have CP : Hid _ := cPut (knS k.toNat) (knD k.toNat) (knA k.toNat) (knB k.toNat) (knM k.toNat)
  unfold putN putE at CP
  rw [p1, p2] at CP
  simp only [if_true] at CP
  obtain ⟨s, d, a, b, m, ok, ht, CG0⟩ := cGet (knW k.toNat) ⟨p3, p4⟩
  have hv : getV (knW k.toNat) = some ⟨(knS k.toNat).toList, knD k.toNat, knA k.toNat, knB k.toNat, knM k.toNat⟩ := by rw [← p2]; exact get_put p1
  obtain ⟨rfl, rfl, rfl, rfl, rfl, rfl⟩ := told_some ht hv rfl
  have CG : Hid _ := CG0
  simp only [if_true] at CG
  clear CG0 ht hv p1 p2 p3 p4
  have c0 : ((w.alloc (.cells knL.toArray 23)).alloc (.cells knX.toArray 24)).cell? ⟨w.heap.size, k.toNat * 5, none⟩ = some (.string (knS k.toNat)) := by rw [World.cell?_alloc_lt _ _ _ (by simp)]; exact cell_new _ _ _ _ _ l0
  have c1 : ((w.alloc (.cells knL.toArray 23)).alloc (.cells knX.toArray 24)).cell? ⟨w.heap.size, k.toNat * 5 + 1, none⟩ = some (.int .i64 (knD k.toNat)) := by rw [World.cell?_alloc_lt _ _ _ (by simp)]; exact cell_new _ _ _ _ _ l1
  have c2 : ((w.alloc (.cells knL.toArray 23)).alloc (.cells knX.toArray 24)).cell? ⟨w.heap.size, k.toNat * 5 + 2, none⟩ = some (.int .i64 (knA k.toNat)) := by rw [World.cell?_alloc_lt _ _ _ (by simp)]; exact cell_new _ _ _ _ _ l2
  have c3 : ((w.alloc (.cells knL.toArray 23)).alloc (.cells knX.toArray 24)).cell? ⟨w.heap.size, k.toNat * 5 + 3, none⟩ = some (.int .i64 (knB k.toNat)) := by rw [World.cell?_alloc_lt _ _ _ (by simp)]; exact cell_new _ _ _ _ _ l3
  have c4 : ((w.alloc (.cells knL.toArray 23)).alloc (.cells knX.toArray 24)).cell? ⟨w.heap.size, k.toNat * 5 + 4, none⟩ = some (.int .i32 (knM k.toNat)) := by rw [World.cell?_alloc_lt _ _ _ (by simp)]; exact cell_new _ _ _ _ _ l4
  have c5 : ((w.alloc (.cells knL.toArray 23)).alloc (.cells knX.toArray 24)).cell? ⟨w.heap.size + 1, k.toNat, none⟩ = some (.int .u32 (knW k.toNat)) := by
    have e : (w.alloc (.cells knL.toArray 23)).heap.size = w.heap.size + 1 := by simp
    rw [← e]; exact cell_new _ _ _ _ _ x0
  have HB : Hid (Below w.heap.size w ((w.alloc (.cells knL.toArray 23)).alloc (.cells knX.toArray 24))) := box2
  have hz0 : w.heap.size < ((w.alloc (.cells knL.toArray 23)).alloc (.cells knX.toArray 24)).heap.size := by simp; omega
  have hz1 : w.heap.size + 1 < ((w.alloc (.cells knL.toArray 23)).alloc (.cells knX.toArray 24)).heap.size := by simp
  unfold knL knX at c0 c1 c2 c3 c4 c5 HB hz0 hz1
  generalize knS k.toNat = S at *
  generalize knD k.toNat = D at *
  generalize knA k.toNat = A at *
  generalize knB k.toNat = B at *
  generalize knM k.toNat = M at *
  generalize knW k.toNat = X at *
  clear l0 l1 l2 l3 l4 x0
  go_enter Try.func6, Try.ntmps6
  go_wp2_with fail
  refine (CP.out _).mono ?_
  rintro e w1 ⟨rfl, hb1⟩
  have d0 := (hb1.cell (p := ⟨w.heap.size, k.toNat * 5, none⟩) hz0).trans c0
  have d1 := (hb1.cell (p := ⟨w.heap.size, k.toNat * 5 + 1, none⟩) hz0).trans c1
  have d2 := (hb1.cell (p := ⟨w.heap.size, k.toNat * 5 + 2, none⟩) hz0).trans c2
  have d3 := (hb1.cell (p := ⟨w.heap.size, k.toNat * 5 + 3, none⟩) hz0).trans c3
  have d4 := (hb1.cell (p := ⟨w.heap.size, k.toNat * 5 + 4, none⟩) hz0).trans c4
  have d5 := (hb1.cell (p := ⟨w.heap.size + 1, k.toNat, none⟩) hz1).trans c5
  have H1 : Hid (Below w.heap.size w w1) := below_step HB.out hb1
  have y0 := Nat.lt_of_lt_of_le hz0 hb1.size
  have y1 := Nat.lt_of_lt_of_le hz1 hb1.size
  clear c0 c1 c2 c3 c4 c5 hz0 hz1 HB hb1 CP
  go_wp2_with fail
  refine (CG.out _).mono ?_
  rintro e w2 ⟨rfl, hb2⟩
  have f0 := (hb2.cell (p := ⟨w.heap.size, k.toNat * 5, none⟩) y0).trans d0
  have f1 := (hb2.cell (p := ⟨w.heap.size, k.toNat * 5 + 1, none⟩) y0).trans d1
  have f2 := (hb2.cell (p := ⟨w.heap.size, k.toNat * 5 + 2, none⟩) y0).trans d2
  have f3 := (hb2.cell (p := ⟨w.heap.size, k.toNat * 5 + 3, none⟩) y0).trans d3
  have f4 := (hb2.cell (p := ⟨w.heap.size, k.toNat * 5 + 4, none⟩) y0).trans d4
  have f5 := (hb2.cell (p := ⟨w.heap.size + 1, k.toNat, none⟩) y1).trans d5
  have H2 : Hid (Below w.heap.size w w2) := below_step H1.out hb2
  have u0 := Nat.lt_of_lt_of_le y0 hb2.size
  have u1 := Nat.lt_of_lt_of_le y1 hb2.size
  clear d0 d1 d2 d3 d4 d5 y0 y1 H1 hb2 CG
  have hb3 : Below w2.heap.size w2 (w2.alloc (.cells #[.string S, .int .i64 D, .int .i64 A, .int .i64 B, .int .i32 M] 23)) := (Below.refl _ _).alloc (Nat.le_refl _) _
  have g0 := (hb3.cell (p := ⟨w.heap.size, k.toNat * 5, none⟩) u0).trans f0
  have g1 := (hb3.cell (p := ⟨w.heap.size, k.toNat * 5 + 1, none⟩) u0).trans f1
  have g2 := (hb3.cell (p := ⟨w.heap.size, k.toNat * 5 + 2, none⟩) u0).trans f2
  have g3 := (hb3.cell (p := ⟨w.heap.size, k.toNat * 5 + 3, none⟩) u0).trans f3
  have g4 := (hb3.cell (p := ⟨w.heap.size, k.toNat * 5 + 4, none⟩) u0).trans f4
  have g5 := (hb3.cell (p := ⟨w.heap.size + 1, k.toNat, none⟩) u1).trans f5
  obtain ⟨tc, _, _⟩ := cells_of (alloc_at w2 (.cells #[.string S, .int .i64 D, .int .i64 A, .int .i64 B, .int .i32 M] 23))
  have t0 := tc 0 (.string S) rfl
  have t1 := tc 1 (.int .i64 D) rfl
  have t2 := tc 2 (.int .i64 A) rfl
  have t3 := tc 3 (.int .i64 B) rfl
  have t4 := tc 4 (.int .i32 M) rfl
  have H3 : Hid (Below w.heap.size w (w2.alloc (.cells #[.string S, .int .i64 D, .int .i64 A, .int .i64 B, .int .i32 M] 23))) := below_step H2.out hb3
  clear tc hb3 f0 f1 f2 f3 f4 f5 H2
  go_wp2_with fail
  generalize w2.alloc (.cells #[.string S, .int .i64 D, .int .i64 A, .int .i64 B, .int .i32 M] 23) = V at *
  generalize w2.heap.size = tb at *
  refine wp_region_tail 23 hm (by kernel_rfl) ?_
  simp only [List.take_succ_cons, List.take_zero, List.drop_succ_cons, List.drop_zero]
  still_step
  still_step
  still_step
  still_step
  still_step
  still_step
  still_step
  still_step
  still_step
  still_step
  still_step
  still_step
  still_step
  still_step
  still_step
  still_step
  still_call (cerr _ _)
  still_step
  still_call (cerr _ _)
  still_step
  still_step
  still_step
  still_step
  refine wpStill_nil ?_
  go_wp2_with fail
  refine (cOps _).mono ?_
  rintro e w4 ⟨ad, cap, rfl, hb4⟩
  go_wp2_with fail
  refine (cawake _).mono ?_
  rintro e w5 ⟨rfl, hb5⟩
  go_wp2
  go_ret
  exact ⟨rfl, below_step (below_step (H3.out.drew) hb4) hb5⟩
end Go.Proofs.Ytbdfaepljgajbaa
