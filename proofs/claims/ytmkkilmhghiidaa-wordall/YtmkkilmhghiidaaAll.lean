/-
  For every number of a name, every text for a name, every two words and every two numbers of bits, the statement WordAll of the Go text answers true: each answer is the document's; no condition beside the row's own.
-/
import Derived.Test.YtmkkilmhghiidaaRefs
import Derived.Shelf.SlSortCmp.QuietGrown
namespace Go.Proofs.Ytmkkilmhghiidaa
open Go.RowKit Go.Sort

def nameAt : Nat → ByteArray
  | 0 => ⟨#[97, 100, 100]⟩
  | 1 => ⟨#[115, 117, 98]⟩
  | 2 => ⟨#[115, 108, 108]⟩
  | 3 => ⟨#[115, 108, 116]⟩
  | 4 => ⟨#[115, 108, 116, 117]⟩
  | 5 => ⟨#[120, 111, 114]⟩
  | 6 => ⟨#[115, 114, 108]⟩
  | 7 => ⟨#[115, 114, 97]⟩
  | 8 => ⟨#[111, 114]⟩
  | 9 => ⟨#[97, 110, 100]⟩
  | 10 => ⟨#[109, 117, 108]⟩
  | 11 => ⟨#[109, 117, 108, 104]⟩
  | 12 => ⟨#[109, 117, 108, 104, 115, 117]⟩
  | 13 => ⟨#[109, 117, 108, 104, 117]⟩
  | 14 => ⟨#[100, 105, 118]⟩
  | 15 => ⟨#[100, 105, 118, 117]⟩
  | 16 => ⟨#[114, 101, 109]⟩
  | _ => ⟨#[114, 101, 109, 117]⟩

theorem eighteen {k : Nat} (h : k < 18) : k = 0 ∨ k = 1 ∨ k = 2 ∨ k = 3 ∨ k = 4 ∨ k = 5 ∨ k = 6 ∨ k = 7 ∨ k = 8 ∨ k = 9 ∨ k = 10 ∨ k = 11 ∨ k = 12 ∨ k = 13 ∨ k = 14 ∨ k = 15 ∨ k = 16 ∨ k = 17 := by omega
theorem name_cell (w : World) (k : Nat) (h : k < 18) : (w.alloc namesObj).cell? ⟨w.heap.size, k, none⟩ = some (.string (nameAt k)) := by
  rcases eighteen h with rfl | rfl | rfl | rfl | rfl | rfl | rfl | rfl | rfl | rfl | rfl | rfl | rfl | rfl | rfl | rfl | rfl | rfl <;> simp [go_sem, namesObj, nameAt]
theorem name_known (k : Nat) (h : k < 18) : opE (nameAt k).toList = 0 := by
  rcases eighteen h with rfl | rfl | rfl | rfl | rfl | rfl | rfl | rfl | rfl | rfl | rfl | rfl | rfl | rfl | rfl | rfl | rfl | rfl <;> simp [go_sem, nameAt, opE, opV]

theorem rnames (w : World) :
    Calls Try.prog 9 #[] w fun e w' => e = .returned (.slice (some ⟨w.heap.size, 0, none⟩) 18 18) ∧ w' = w.alloc namesObj := by
  go_enter Try.func9, Try.ntmps9
  go_wp2
  go_ret
  exact ⟨rfl, rfl⟩

theorem grown_same {P : Program} {f : FuncId} {args : Array Value} {w : World} {n : Nat} {os : Array Obj} {v : Value}
    (h : Calls P f args (grow (w.drewN n) os) fun e w' => e = .returned v ∧ w' = grow (w.drewN n) os) : Calls P f args (grow (w.drewN n) os) fun e w'' => e = .returned v ∧ ∃ p : GrownBy, w'' = grow (w.drewN p.n) p.os :=
  h.mono fun _ _ h => ⟨h.1, ⟨n, os⟩, h.2⟩
theorem grown_more {P : Program} {f : FuncId} {args : Array Value} {w : World} {n : Nat} {os : Array Obj} {v : Value}
    (h : Calls P f args (grow (w.drewN n) os) fun e w' => e = .returned v ∧ ∃ os', w' = grow (grow (w.drewN n) os) os') : Calls P f args (grow (w.drewN n) os) fun e w'' => e = .returned v ∧ ∃ p : GrownBy, w'' = grow (w.drewN p.n) p.os := by
  refine h.mono ?_
  rintro e w'' ⟨he, os', hw⟩
  exact ⟨he, ⟨n, os ++ os'⟩, by rw [hw, grow_grow]⟩
theorem below_grow (B : Nat) (W : World) (n : Nat) (os : Array Obj) (h : B ≤ W.heap.size) : RowKit.Below B W (grow (W.drewN n) os) :=
  ⟨rfl, rfl, rfl, by simp, fun k hk => by rw [heap_grow_old _ _ (by exact Nat.lt_of_lt_of_le hk h)]; rfl⟩
theorem below3 {w w1 w2 : World} {o x y : Obj} (B1 : RowKit.Below (w.alloc o).heap.size (w.alloc o) w1) (B2 : RowKit.Below w1.heap.size w1 w2) : RowKit.Below w.heap.size w ((w2.alloc x).alloc y) := by
  have h0 : w.heap.size ≤ (w.alloc o).heap.size := by simp
  have h1 := B1.size
  have h2 := B2.size
  have b0 : RowKit.Below w.heap.size w (w.alloc o) := (RowKit.Below.refl _ _).alloc (Nat.le_refl _) _
  exact (((b0.trans (B1.mono h0)).trans (B2.mono (by omega))).alloc (by omega) _).alloc (by simp; omega) _

set_option maxHeartbeats 4000000 in
theorem wordAll (c : Int) (s : ByteArray) (a b lo n : Int) (hc : 0 ≤ c ∧ c ≤ 255) (ha : U32 a) (hb : U32 b) (w : World) :
    Calls Try.prog 3 #[.int .u8 c, .string s, .int .u32 a, .int .u32 b, .int .i64 lo, .int .i64 n] w fun e w' => e = .returned (.bool true) ∧ Below w.heap.size w w' := by
  have Ha : Hid (U32 a) := ha
  have Hb : Hid (U32 b) := hb
  obtain ⟨ha0, ha1⟩ := ha
  obtain ⟨hb0, hb1⟩ := hb
  obtain ⟨hc0, hc1⟩ := hc
  have k0 : 0 ≤ c % 18 := by omega
  have k1 : c % 18 < 18 := by omega
  generalize hk : c % 18 = k at *
  have hcell := name_cell w k.toNat (by omega)
  have hkn := name_known k.toNat (by omega)
  generalize nameAt k.toNat = nm at *
  go_enter Try.func3, Try.ntmps3
  go_wp2_with fail
  refine (rnames _).mono ?_
  rintro e w' ⟨rfl, rfl⟩
  go_wp2_with fail
  refine (wordOp _ _ _ Ha Hb _).mono ?_
  rintro e w' ⟨rfl, rfl⟩
  go_wp2_with fail
  refine (wordOp _ _ _ Ha Hb _).mono ?_
  rintro e w' ⟨rfl, rfl⟩
  go_wp2_with fail
  refine (rOp _ _ _ Ha Hb _).mono ?_
  rintro e w1 ⟨rfl, B1⟩
  go_wp2_with fail
  refine (rOp _ _ _ Ha Hb _).mono ?_
  rintro e w2 ⟨rfl, B2⟩
  go_wp2_with fail
  have HB := below3 (o := namesObj) (x := .cells #[.int .u32 (opN nm.toList a b), .int .i64 0] 29) (y := .cells #[.int .u32 (opN s.toList a b), .int .i64 (opE s.toList)] 29) B1 B2
  have s0 : w2.heap.size < ((w2.alloc (.cells #[.int .u32 (opN nm.toList a b), .int .i64 0] 29)).alloc (.cells #[.int .u32 (opN s.toList a b), .int .i64 (opE s.toList)] 29)).heap.size := by simp; omega
  have s1 : w2.heap.size + 1 < ((w2.alloc (.cells #[.int .u32 (opN nm.toList a b), .int .i64 0] 29)).alloc (.cells #[.int .u32 (opN s.toList a b), .int .i64 (opE s.toList)] 29)).heap.size := by simp
  have c1 : ((w2.alloc (.cells #[.int .u32 (opN nm.toList a b), .int .i64 0] 29)).alloc (.cells #[.int .u32 (opN s.toList a b), .int .i64 (opE s.toList)] 29)).cell? ⟨w2.heap.size, 0, none⟩ = some (.int .u32 (opN nm.toList a b)) := by simp [go_sem]
  have c2 : ((w2.alloc (.cells #[.int .u32 (opN nm.toList a b), .int .i64 0] 29)).alloc (.cells #[.int .u32 (opN s.toList a b), .int .i64 (opE s.toList)] 29)).cell? ⟨w2.heap.size + 1, 0, none⟩ = some (.int .u32 (opN s.toList a b)) := by simp [go_sem]
  have c3 : ((w2.alloc (.cells #[.int .u32 (opN nm.toList a b), .int .i64 0] 29)).alloc (.cells #[.int .u32 (opN s.toList a b), .int .i64 (opE s.toList)] 29)).cell? ⟨w2.heap.size + 1, 1, none⟩ = some (.int .i64 (opE s.toList)) := by simp [go_sem]
  generalize (w2.alloc (.cells #[.int .u32 (opN nm.toList a b), .int .i64 0] 29)).alloc (.cells #[.int .u32 (opN s.toList a b), .int .i64 (opE s.toList)] 29) = W3 at *
  generalize w2.heap.size = g at *
  have d1 := cell_grown s0 c1
  have d2 := cell_grown s1 c2
  have d3 := cell_grown s1 c3
  have HB' : Hid (RowKit.Below w.heap.size w W3) := HB
  clear HB B1 B2 hcell c1 c2 c3 s0 s1
  generalize opN nm.toList a b = N1 at *
  generalize opN s.toList a b = N2 at *
  generalize opE s.toList = E2 at *
  have hm : Try.prog.follows .mixedOrders = true := by kernel_rfl
  go_quiet_grown (first | (go_at_call 12; exact grown_same (err _ _)) | (go_at_call 13; exact grown_same (sext _ _ Ha _)) | (go_at_call 14; exact grown_more (rSextG _ _ Ha _)) | (go_at_call 15; exact grown_same (bits_ _ _ _ Ha _)) | (go_at_call 16; exact grown_same (rBits _ _ _ Ha _)) | (go_at_call 17; exact grown_same (awake _)))
  go_wp2
  go_ret
  exact ⟨rfl, HB'.out.trans (below_grow _ _ _ _ HB'.out.size)⟩
end Go.Proofs.Ytmkkilmhghiidaa
