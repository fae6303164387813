/-
  The small functions of package guard: a contract each.
-/
import Derived.Test.YtioppnlojlecaaaGdp
import Derived.Laws.BitsAllLaws
namespace Go.Proofs.Ytioppnlojlecaaa
open Go.RowKit

/-- A region as a value. -/
def rval (r : Rg) : Value := .agg #[.int .u32 r.lo, .int .u32 r.hi, .bool r.x, .bool r.w]
def coverV (r : Rg) (p s : Int) : Bool := decide (0 < s) && decide (r.lo ≤ p) && decide (p + s ≤ r.hi)
def permitV (r : Rg) (h : Int) : Bool := if h = 0 then true else if h = 1 then r.w else if h = 2 then r.x else false
theorem allow_split (r : Rg) (p s h : Int) : (coverV r p s && permitV r h) = (if s < 1 ∨ h < 0 ∨ 2 < h then false else allow1 r p s h) := by
  by_cases c : s < 1 ∨ h < 0 ∨ 2 < h
  · rw [if_pos c]
    unfold coverV permitV
    by_cases h0 : 0 < s
    · rw [if_neg (by omega), if_neg (by omega), if_neg (by omega), Bool.and_false]
    · simp [h0]
  · rw [if_neg c]
    unfold coverV permitV allow1
    have h0 : 0 < s := by omega
    have e : h = 0 ∨ h = 1 ∨ h = 2 := by omega
    rcases e with rfl | rfl | rfl <;> simp [h0]
theorem allowV_any (l : List Rg) (p s h : Int) : allowV l p s h = l.any fun r => coverV r p s && permitV r h := by
  unfold allowV
  by_cases c : s < 1 ∨ h < 0 ∨ 2 < h
  · rw [if_pos c]
    symm
    rw [List.any_eq_false]
    intro r _
    rw [allow_split, if_pos c]
    decide
  · rw [if_neg c]
    congr 1
    funext r
    rw [allow_split, if_neg c]

set_option maxRecDepth 100000 in
set_option maxHeartbeats 2000000 in
theorem gcovers (r : Rg) (hr : RgU r) (p s : Int) (hp : U32 p) (hs : U32 s) (w : World) :
    Calls Try.prog 20 #[rval r, .int .u32 p, .int .u32 s] w fun e w' => e = .returned (.bool (coverV r p s)) ∧ Below w.heap.size w w' := by
  obtain ⟨lo, hi, x, y⟩ := r
  obtain ⟨⟨l0, l1⟩, ⟨g0, g1⟩⟩ := hr
  obtain ⟨p0, p1⟩ := hp
  obtain ⟨s0, s1⟩ := hs
  simp only at l0 l1 g0 g1
  unfold rval coverV
  simp only
  have HB : Hid (∀ o : Obj, Below w.heap.size w (w.alloc o)) := fun o => (Below.refl _ _).alloc (Nat.le_refl _) _
  by_cases d0 : 0 < s
  · by_cases d1 : lo ≤ p
    · by_cases d2 : p + s ≤ hi
      · rw [decide_eq_true d0, decide_eq_true d1, decide_eq_true d2]
        go_enter Try.func20, Try.ntmps20
        go_wp2
        go_ret
        exact ⟨rfl, HB.out _⟩
      · rw [decide_eq_true d0, decide_eq_true d1, decide_eq_false d2]
        go_enter Try.func20, Try.ntmps20
        go_wp2
        go_ret
        exact ⟨rfl, HB.out _⟩
    · rw [decide_eq_true d0, decide_eq_false d1]
      go_enter Try.func20, Try.ntmps20
      go_wp2
      go_ret
      exact ⟨rfl, HB.out _⟩
  · rw [decide_eq_false d0]
    go_enter Try.func20, Try.ntmps20
    go_wp2
    go_ret
    exact ⟨rfl, HB.out _⟩

set_option maxRecDepth 100000 in
set_option maxHeartbeats 2000000 in
theorem gpermits (r : Rg) (h : Int) (w : World) :
    Calls Try.prog 21 #[rval r, .int .i64 h] w fun e w' => e = .returned (.bool (permitV r h)) ∧ Below w.heap.size w w' := by
  obtain ⟨lo, hi, x, y⟩ := r
  unfold rval permitV
  simp only
  have HB : Hid (∀ o : Obj, Below w.heap.size w (w.alloc o)) := fun o => (Below.refl _ _).alloc (Nat.le_refl _) _
  by_cases e0 : h = 0
  · subst e0
    go_enter Try.func21, Try.ntmps21
    go_wp2
    go_ret
    exact ⟨rfl, HB.out _⟩
  · have b0 : (h == 0) = false := by simpa using e0
    rw [if_neg e0]
    by_cases e1 : h = 1
    · subst e1
      go_enter Try.func21, Try.ntmps21
      go_wp2
      go_ret
      exact ⟨rfl, HB.out _⟩
    · have b1 : (h == 1) = false := by simpa using e1
      rw [if_neg e1]
      by_cases e2 : h = 2
      · subst e2
        go_enter Try.func21, Try.ntmps21
        go_wp2
        go_ret
        exact ⟨rfl, HB.out _⟩
      · have b2 : (h == 2) = false := by simpa using e2
        rw [if_neg e2]
        go_enter Try.func21, Try.ntmps21
        go_wp2
        go_ret
        exact ⟨rfl, HB.out _⟩

theorem andNot3 {x : Int} (h : U32 x) : bits .andNot .u32 x 3 = x / 4 * 4 := by
  obtain ⟨X, rfl⟩ := Int.eq_ofNat_of_zero_le h.1
  have h1 : X < 4294967296 := by have := h.2; omega
  have := u32_andNot_nat X 3 h1 (by decide)
  rw [show ((3 : Nat) : Int) = 3 by rfl, show (4294967295 - 3 : Nat) = 4294967292 by rfl, nat_hi32_2] at this
  rw [this]
  omega
theorem and1 {x : Int} (h : U32 x) : bits .and .u32 x 1 = x % 2 := by
  obtain ⟨X, rfl⟩ := Int.eq_ofNat_of_zero_le h.1
  have h1 : X < 4294967296 := by have := h.2; omega
  have := u32_and_nat X 1 h1 (by decide)
  rw [show ((1 : Nat) : Int) = 1 by rfl, nat_mask1] at this
  rw [this]
  omega
theorem and2 {x : Int} (h : U32 x) : bits .and .u32 x 2 = x / 2 % 2 * 2 := by
  obtain ⟨X, rfl⟩ := Int.eq_ofNat_of_zero_le h.1
  have h1 : X < 4294967296 := by have := h.2; omega
  have := u32_and_nat X 2 h1 (by decide)
  have e := nat_bit 1 X
  rw [show (2 ^ 1 : Nat) = 2 by rfl] at e
  rw [show ((2 : Nat) : Int) = 2 by rfl, e] at this
  rw [this]
  omega
theorem and3 {x : Int} (h : U32 x) : bits .and .u32 x 3 = x % 4 := by
  obtain ⟨X, rfl⟩ := Int.eq_ofNat_of_zero_le h.1
  have h1 : X < 4294967296 := by have := h.2; omega
  have := u32_and_nat X 3 h1 (by decide)
  rw [show ((3 : Nat) : Int) = 3 by rfl, nat_mask2] at this
  rw [this]
  omega
theorem pair_bits {a b : Int} (ha : U32 a) (hb : U32 b) : pairV a b = ⟨bits .andNot .u32 a 3, bits .andNot .u32 b 3, bits .and .u32 b 1 != 0, bits .and .u32 b 2 != 0⟩ := by
  rw [andNot3 ha, andNot3 hb, and1 hb, and2 hb]
  unfold pairV
  have e1 : (b % 2 == 1) = (b % 2 != 0) := by
    rcases Int.emod_two_eq b with h | h <;> rw [h] <;> rfl
  have e2 : (b / 2 % 2 == 1) = (b / 2 % 2 * 2 != 0) := by
    rcases Int.emod_two_eq (b / 2) with h | h <;> rw [h] <;> rfl
  rw [e1, e2]

set_option maxRecDepth 100000 in
set_option maxHeartbeats 2000000 in
theorem gregionOf (a b : Int) (ha : U32 a) (hb : U32 b) (w : World) :
    Calls Try.prog 22 #[.agg #[.int .u32 a, .int .u32 b]] w fun e w' => e = .returned (rval (pairV a b)) ∧ Below w.heap.size w w' := by
  have e := pair_bits ha hb
  unfold rval
  rw [e]
  simp only
  clear e ha hb
  generalize hx : bits .andNot .u32 a 3 = x at *
  generalize hy : bits .andNot .u32 b 3 = y at *
  generalize hu : bits .and .u32 b 1 = u at *
  generalize hv : bits .and .u32 b 2 = v at *
  go_enter Try.func22, Try.ntmps22
  go_wp2
  exact bodyPost_ret (v := .agg #[.int .u32 x, .int .u32 y, .bool (u != 0), .bool (v != 0)]) (by simp [results, Try.results22, go_sem]) rfl ⟨rfl, box2⟩

/-- The two words of a region, as a value. -/
def pval (a b : Int) : Value := .agg #[.int .u32 a, .int .u32 b]
theorem pairOf_hi (r : Rg) : hiV r = if r.x then (if r.w then r.hi + 3 else r.hi + 1) else (if r.w then r.hi + 2 else r.hi) := by
  obtain ⟨lo, hi, x, y⟩ := r
  unfold hiV
  cases x <;> cases y <;> simp
  omega

set_option maxRecDepth 100000 in
set_option maxHeartbeats 2000000 in
theorem gpairOf (r : Rg) (hr : RgU r) (hg : r.hi % 4 = 0) (w : World) :
    Calls Try.prog 17 #[rval r] w fun e w' => e = .returned (pval r.lo (hiV r)) ∧ Below w.heap.size w w' := by
  obtain ⟨lo, hi, x, y⟩ := r
  rw [pairOf_hi]
  unfold rval pval
  simp only at hg ⊢
  have o1 := or_one hr.2 hg
  have o2 := or_two hr.2 hg
  have o3 := or_both hr.2 hg
  clear hr hg
  cases x <;> cases y
  · go_enter Try.func17, Try.ntmps17
    go_wp2
    exact bodyPost_ret (v := .agg #[.int .u32 lo, .int .u32 hi]) (by simp [results, Try.results17, go_sem]) rfl ⟨rfl, box2.alloc (by simp; omega) _⟩
  · go_enter Try.func17, Try.ntmps17
    go_wp2
    exact bodyPost_ret (v := .agg #[.int .u32 lo, .int .u32 (hi + 2)]) (by simp [results, Try.results17, go_sem]) rfl ⟨rfl, box2.alloc (by simp; omega) _⟩
  · go_enter Try.func17, Try.ntmps17
    go_wp2
    exact bodyPost_ret (v := .agg #[.int .u32 lo, .int .u32 (hi + 1)]) (by simp [results, Try.results17, go_sem]) rfl ⟨rfl, box2.alloc (by simp; omega) _⟩
  · go_enter Try.func17, Try.ntmps17
    go_wp2
    exact bodyPost_ret (v := .agg #[.int .u32 lo, .int .u32 (hi + 3)]) (by simp [results, Try.results17, go_sem]) rfl ⟨rfl, box2.alloc (by simp; omega) _⟩

set_option maxRecDepth 100000 in
set_option maxHeartbeats 2000000 in
theorem gpairAt (ws : Nat → Int) (k : Nat) (hk : k < 8) (w : World) :
    Calls Try.prog 19 #[.agg (row16 ws), .int .i64 k] w fun e w' => e = .returned (pval (ws (2 * k)) (ws (2 * k + 1))) ∧ Below w.heap.size w w' := by
  have hbox : ∀ w, (Instr.box 26 (.agg (row16 ws))).run Try.prog w = .ok (.pointer (some ⟨w.heap.size, 0, none⟩)) (w.alloc (.cells (row16 ws) 26)) := fun w => by kernel_rfl
  obtain ⟨m, hm⟩ : ∃ m, m = 2 * k := ⟨_, rfl⟩
  have q0 := row16_at ws (2 * k) (by omega)
  have q1 := row16_at ws (2 * k + 1) (by omega)
  rw [← hm] at q0 q1 ⊢
  generalize ws m = x at *
  generalize ws (m + 1) = y at *
  go_enter Try.func19, Try.ntmps19
  go_wp2_with fail
  have hA : ((w.alloc (.cells (row16 ws) 26)).alloc (.cells #[.int .u32 0, .int .u32 0] 46)).heap[w.heap.size]? = some (.cells (row16 ws) 26) := kept_block ((Below.refl _ _).alloc (Nat.le_refl _) _)
  have hB : ((w.alloc (.cells (row16 ws) 26)).alloc (.cells #[.int .u32 0, .int .u32 0] 46)).heap[w.heap.size + 1]? = some (.cells #[.int .u32 0, .int .u32 0] 46) := by
    have := alloc_at (w.alloc (.cells (row16 ws) 26)) (.cells #[.int .u32 0, .int .u32 0] 46)
    rwa [World.size_alloc] at this
  have HB : Hid (Below w.heap.size w ((w.alloc (.cells (row16 ws) 26)).alloc (.cells #[.int .u32 0, .int .u32 0] 46))) := box2
  generalize ((w.alloc (.cells (row16 ws) 26)).alloc (.cells #[.int .u32 0, .int .u32 0] 46)) = V at *
  obtain ⟨cc, cf, cs⟩ := cells_of hA
  have c0 := cc m _ q0
  have c1 := cc (m + 1) _ q1
  obtain ⟨dc, df, ds⟩ := cells_of hB
  have d0 := dc 0 (.int .u32 0) rfl
  have d1 := dc 1 (.int .u32 0) rfl
  have f0 := df 0
  have f1 := df 1
  clear cc cf dc df hbox hA hB q0 q1
  have v0 : (2 : Int) * (k : Int) = (m : Int) := by omega
  have v1 : IntKind.i64.wrap (2 * (k : Int)) = (m : Int) := by rw [IntKind.wrap_i64]; omega
  have v2 : IntKind.i64.wrap ((m : Int) + 1) = (m : Int) + 1 := by rw [IntKind.wrap_i64]; omega
  have v3 : ((m : Int) + 1).toNat = m + 1 := by omega
  have i1 : (0 : Int) ≤ (m : Int) := by omega
  have i2 : (m : Int) < 16 := by omega
  have i3 : (m : Int) + 1 < 16 := by omega
  have i4 : (0 : Int) ≤ (m : Int) + 1 := by omega
  clear hm
  go_region
  go_wp2
  exact bodyPost_ret (v := .agg #[.int .u32 x, .int .u32 y]) (by simp [results, Try.results19, go_sem, d0, d1]) rfl ⟨rfl, ((HB.out.setCell (Nat.le_succ _) _).setCell (Nat.le_succ _) _).drew⟩
end Go.Proofs.Ytioppnlojlecaaa
