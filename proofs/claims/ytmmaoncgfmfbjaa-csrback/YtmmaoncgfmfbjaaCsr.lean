/-
  What a register says, by the document: contract of the function that the statements bear.
-/
import Derived.Test.YtmmaoncgfmfbjaaCsv
namespace Go.Proofs.Ytmmaoncgfmfbjaa
open Go.RowKit

/-- The cell of a register that is written as it is read. -/
def cellOf (n : Int) : Option Nat :=
  if n = 768 then some 34
  else if n = 772 then some 35
  else if n = 773 then some 36
  else if n = 832 then some 37
  else if n = 833 then some 38
  else if n = 834 then some 39
  else if n = 835 then some 40
  else if 1984 ≤ n ∧ n < 2000 then some (41 + (n - 1984).toNat)
  else none
def readN (f : Nat → Int) (n now : Int) (due : Bool) : Int :=
  if n = 836 then (if due then 128 else 0) else if n = 3072 then now % 4294967296 else match cellOf n with
    | some i => f i
    | none => 0
def readE (n : Int) : Int := if n = 836 ∨ n = 3072 ∨ (cellOf n).isSome then 0 else 2
def gotA (x e : Int) : Value := .agg #[.int .u32 x, .int .i64 e]
theorem got_csr {x y e g : Int} (h : x = y) (h' : e = g) : Ending.returned (gotA x e) = .returned (gotA y g) := by rw [h, h']

set_option maxRecDepth 100000 in
set_option maxHeartbeats 4000000 in
theorem rRead_768 (f : Nat → Int) (u : Bool) (now : Int) (due : Bool) (w : World) :
    Calls Try.prog 9 #[.agg (regs57 f u), .int .i64 768, .int .i64 now, .bool due] w fun e w' => e = .returned (gotA (f 34) 0) ∧ Below w.heap.size w w' := by
  have hbox := box57 f u
  have H0 : Hid (∀ Z, ((w.alloc (.cells (regs57 f u) 27)).alloc Z).heap[w.heap.size]? = some (.cells (regs57 f u) 27)) := fun Z => kept_block ((Below.refl _ _).alloc (Nat.le_refl _) _)
  go_enter Try.func9, Try.ntmps9
  go_wp2_with (first | (refine wpList_load_reg rfl rfl rfl (H0.out _) (by decide) (by decide) ?_))
  exact bodyPost_ret (v := gotA (f 34) 0) (by simp [results, Try.results9, go_sem, gotA]) rfl ⟨rfl, box2⟩
set_option maxRecDepth 100000 in
set_option maxHeartbeats 4000000 in
theorem rRead_772 (f : Nat → Int) (u : Bool) (now : Int) (due : Bool) (w : World) :
    Calls Try.prog 9 #[.agg (regs57 f u), .int .i64 772, .int .i64 now, .bool due] w fun e w' => e = .returned (gotA (f 35) 0) ∧ Below w.heap.size w w' := by
  have hbox := box57 f u
  have H0 : Hid (∀ Z, ((w.alloc (.cells (regs57 f u) 27)).alloc Z).heap[w.heap.size]? = some (.cells (regs57 f u) 27)) := fun Z => kept_block ((Below.refl _ _).alloc (Nat.le_refl _) _)
  go_enter Try.func9, Try.ntmps9
  go_wp2_with (first | (refine wpList_load_reg rfl rfl rfl (H0.out _) (by decide) (by decide) ?_))
  exact bodyPost_ret (v := gotA (f 35) 0) (by simp [results, Try.results9, go_sem, gotA]) rfl ⟨rfl, box2⟩
set_option maxRecDepth 100000 in
set_option maxHeartbeats 4000000 in
theorem rRead_773 (f : Nat → Int) (u : Bool) (now : Int) (due : Bool) (w : World) :
    Calls Try.prog 9 #[.agg (regs57 f u), .int .i64 773, .int .i64 now, .bool due] w fun e w' => e = .returned (gotA (f 36) 0) ∧ Below w.heap.size w w' := by
  have hbox := box57 f u
  have H0 : Hid (∀ Z, ((w.alloc (.cells (regs57 f u) 27)).alloc Z).heap[w.heap.size]? = some (.cells (regs57 f u) 27)) := fun Z => kept_block ((Below.refl _ _).alloc (Nat.le_refl _) _)
  go_enter Try.func9, Try.ntmps9
  go_wp2_with (first | (refine wpList_load_reg rfl rfl rfl (H0.out _) (by decide) (by decide) ?_))
  exact bodyPost_ret (v := gotA (f 36) 0) (by simp [results, Try.results9, go_sem, gotA]) rfl ⟨rfl, box2⟩
set_option maxRecDepth 100000 in
set_option maxHeartbeats 4000000 in
theorem rRead_832 (f : Nat → Int) (u : Bool) (now : Int) (due : Bool) (w : World) :
    Calls Try.prog 9 #[.agg (regs57 f u), .int .i64 832, .int .i64 now, .bool due] w fun e w' => e = .returned (gotA (f 37) 0) ∧ Below w.heap.size w w' := by
  have hbox := box57 f u
  have H0 : Hid (∀ Z, ((w.alloc (.cells (regs57 f u) 27)).alloc Z).heap[w.heap.size]? = some (.cells (regs57 f u) 27)) := fun Z => kept_block ((Below.refl _ _).alloc (Nat.le_refl _) _)
  go_enter Try.func9, Try.ntmps9
  go_wp2_with (first | (refine wpList_load_reg rfl rfl rfl (H0.out _) (by decide) (by decide) ?_))
  exact bodyPost_ret (v := gotA (f 37) 0) (by simp [results, Try.results9, go_sem, gotA]) rfl ⟨rfl, box2⟩
set_option maxRecDepth 100000 in
set_option maxHeartbeats 4000000 in
theorem rRead_833 (f : Nat → Int) (u : Bool) (now : Int) (due : Bool) (w : World) :
    Calls Try.prog 9 #[.agg (regs57 f u), .int .i64 833, .int .i64 now, .bool due] w fun e w' => e = .returned (gotA (f 38) 0) ∧ Below w.heap.size w w' := by
  have hbox := box57 f u
  have H0 : Hid (∀ Z, ((w.alloc (.cells (regs57 f u) 27)).alloc Z).heap[w.heap.size]? = some (.cells (regs57 f u) 27)) := fun Z => kept_block ((Below.refl _ _).alloc (Nat.le_refl _) _)
  go_enter Try.func9, Try.ntmps9
  go_wp2_with (first | (refine wpList_load_reg rfl rfl rfl (H0.out _) (by decide) (by decide) ?_))
  exact bodyPost_ret (v := gotA (f 38) 0) (by simp [results, Try.results9, go_sem, gotA]) rfl ⟨rfl, box2⟩
set_option maxRecDepth 100000 in
set_option maxHeartbeats 4000000 in
theorem rRead_834 (f : Nat → Int) (u : Bool) (now : Int) (due : Bool) (w : World) :
    Calls Try.prog 9 #[.agg (regs57 f u), .int .i64 834, .int .i64 now, .bool due] w fun e w' => e = .returned (gotA (f 39) 0) ∧ Below w.heap.size w w' := by
  have hbox := box57 f u
  have H0 : Hid (∀ Z, ((w.alloc (.cells (regs57 f u) 27)).alloc Z).heap[w.heap.size]? = some (.cells (regs57 f u) 27)) := fun Z => kept_block ((Below.refl _ _).alloc (Nat.le_refl _) _)
  go_enter Try.func9, Try.ntmps9
  go_wp2_with (first | (refine wpList_load_reg rfl rfl rfl (H0.out _) (by decide) (by decide) ?_))
  exact bodyPost_ret (v := gotA (f 39) 0) (by simp [results, Try.results9, go_sem, gotA]) rfl ⟨rfl, box2⟩
set_option maxRecDepth 100000 in
set_option maxHeartbeats 4000000 in
theorem rRead_835 (f : Nat → Int) (u : Bool) (now : Int) (due : Bool) (w : World) :
    Calls Try.prog 9 #[.agg (regs57 f u), .int .i64 835, .int .i64 now, .bool due] w fun e w' => e = .returned (gotA (f 40) 0) ∧ Below w.heap.size w w' := by
  have hbox := box57 f u
  have H0 : Hid (∀ Z, ((w.alloc (.cells (regs57 f u) 27)).alloc Z).heap[w.heap.size]? = some (.cells (regs57 f u) 27)) := fun Z => kept_block ((Below.refl _ _).alloc (Nat.le_refl _) _)
  go_enter Try.func9, Try.ntmps9
  go_wp2_with (first | (refine wpList_load_reg rfl rfl rfl (H0.out _) (by decide) (by decide) ?_))
  exact bodyPost_ret (v := gotA (f 40) 0) (by simp [results, Try.results9, go_sem, gotA]) rfl ⟨rfl, box2⟩
set_option maxRecDepth 100000 in
set_option maxHeartbeats 4000000 in
theorem rRead_836 (f : Nat → Int) (u : Bool) (now : Int) (due : Bool) (w : World) :
    Calls Try.prog 9 #[.agg (regs57 f u), .int .i64 836, .int .i64 now, .bool due] w fun e w' => e = .returned (gotA (if due then 128 else 0) 0) ∧ Below w.heap.size w w' := by
  have hbox := box57 f u
  cases due
  · rw [if_neg (by decide)]
    go_enter Try.func9, Try.ntmps9
    go_wp2
    exact bodyPost_ret (v := gotA 0 0) (by simp [results, Try.results9, go_sem, gotA]) rfl ⟨rfl, box2⟩
  · rw [if_pos rfl]
    go_enter Try.func9, Try.ntmps9
    go_wp2
    exact bodyPost_ret (v := gotA 128 0) (by simp [results, Try.results9, go_sem, gotA]) rfl ⟨rfl, box2⟩
set_option maxRecDepth 100000 in
set_option maxHeartbeats 4000000 in
theorem rRead_guard (f : Nat → Int) (u : Bool) (k : Nat) (now : Int) (due : Bool) (hk : k < 16) (w : World) :
    Calls Try.prog 9 #[.agg (regs57 f u), .int .i64 (1984 + k : Int), .int .i64 now, .bool due] w fun e w' => e = .returned (gotA (f (41 + k)) 0) ∧ Below w.heap.size w w' := by
  have hbox := box57 f u
  have H0 : Hid (∀ Z, ((w.alloc (.cells (regs57 f u) 27)).alloc Z).heap[w.heap.size]? = some (.cells (regs57 f u) 27)) := fun Z => kept_block ((Below.refl _ _).alloc (Nat.le_refl _) _)
  have m768 : ((1984 + k : Int) == 768) = false := by simp; omega
  have m772 : ((1984 + k : Int) == 772) = false := by simp; omega
  have m773 : ((1984 + k : Int) == 773) = false := by simp; omega
  have m832 : ((1984 + k : Int) == 832) = false := by simp; omega
  have m833 : ((1984 + k : Int) == 833) = false := by simp; omega
  have m834 : ((1984 + k : Int) == 834) = false := by simp; omega
  have m835 : ((1984 + k : Int) == 835) = false := by simp; omega
  have m836 : ((1984 + k : Int) == 836) = false := by simp; omega
  have m3072 : ((1984 + k : Int) == 3072) = false := by simp; omega
  have g1 : (1984 : Int) ≤ 1984 + (k : Int) := by omega
  have g2 : 1984 + (k : Int) < 2000 := by omega
  have g3 : (0 : Int) ≤ (k : Int) := by omega
  have g4 : (k : Int) < 16 := by omega
  have g5 : 1984 + (k : Int) - 1984 = (k : Int) := by omega
  go_enter Try.func9, Try.ntmps9
  go_wp2_with (first | (refine wpList_load_reg rfl rfl rfl (H0.out _) (by omega) (by omega) ?_))
  exact bodyPost_ret (v := gotA (f (41 + k)) 0) (by simp [results, Try.results9, go_sem, gotA]) rfl ⟨rfl, box2⟩
set_option maxRecDepth 100000 in
set_option maxHeartbeats 4000000 in
theorem rRead_none (f : Nat → Int) (u : Bool) (n : Int) (now : Int) (due : Bool) (h : cellOf n = none) (h1 : n ≠ 836) (h2 : n ≠ 3072) (w : World) :
    Calls Try.prog 9 #[.agg (regs57 f u), .int .i64 n, .int .i64 now, .bool due] w fun e w' => e = .returned (gotA 0 2) ∧ Below w.heap.size w w' := by
  have hbox := box57 f u
  have hh : n ≠ 768 ∧ n ≠ 772 ∧ n ≠ 773 ∧ n ≠ 832 ∧ n ≠ 833 ∧ n ≠ 834 ∧ n ≠ 835 ∧ ¬ (1984 ≤ n ∧ n < 2000) := by
    unfold cellOf at h
    repeat' split at h
    all_goals first | (cases h; done) | (refine ⟨?_, ?_, ?_, ?_, ?_, ?_, ?_, ?_⟩ <;> assumption)
  obtain ⟨z1, z2, z3, z4, z5, z6, z7, z8⟩ := hh
  have m768 : (n == 768) = false := by simp; omega
  have m772 : (n == 772) = false := by simp; omega
  have m773 : (n == 773) = false := by simp; omega
  have m832 : (n == 832) = false := by simp; omega
  have m833 : (n == 833) = false := by simp; omega
  have m834 : (n == 834) = false := by simp; omega
  have m835 : (n == 835) = false := by simp; omega
  have m836 : (n == 836) = false := by simp; omega
  have m3072 : (n == 3072) = false := by simp; omega
  clear h h1 h2 z1 z2 z3 z4 z5 z6 z7
  by_cases c : 1984 ≤ n
  · have c2 : ¬ n < 2000 := by omega
    clear z8
    go_enter Try.func9, Try.ntmps9
    go_wp2
    exact bodyPost_ret (v := gotA 0 2) (by simp [results, Try.results9, go_sem, gotA]) rfl ⟨rfl, box2⟩
  · clear z8
    go_enter Try.func9, Try.ntmps9
    go_wp2
    exact bodyPost_ret (v := gotA 0 2) (by simp [results, Try.results9, go_sem, gotA]) rfl ⟨rfl, box2⟩
end Go.Proofs.Ytmmaoncgfmfbjaa
