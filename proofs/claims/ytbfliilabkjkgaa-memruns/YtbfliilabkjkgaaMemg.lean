/-
  Memory as package mem lays it out: a block with a slice of bytes; what its small functions make of it: a contract each.
-/
import Derived.Test.YtbfliilabkjkgaaMemb
import Derived.Test.YtbfliilabkjkgaaMemk
namespace Go.Proofs.Ytbfliilabkjkgaa
open Go.RowKit

/-- At m lies a memory of the words l: the block of the struct, the block of its bytes. -/
structure Lies (w : World) (m b cap : Nat) (l : List Int) : Prop where
  len : 1 ≤ l.length ∧ l.length ≤ 65536
  room : 4 * l.length ≤ cap ∧ cap ≤ maxLen
  u32 : ∀ z ∈ l, U32 z
  two : m ≠ b
  here : w.cell? ⟨m, 0, none⟩ = some (.slice (some ⟨b, 0, none⟩) (4 * l.length) cap)
  byte : ∀ j, j < 4 * l.length → w.cell? ⟨b, j, none⟩ = some (.int .u8 (byteAt l j))
  free : ∀ j, w.frozen? ⟨b, j, none⟩ = false

theorem wordAt_in {l : List Int} (h : ∀ z ∈ l, U32 z) (i : Nat) : U32 (wordAt l i) := by
  unfold wordAt
  rw [List.getD_eq_getElem?_getD]
  cases hi : l[i]? with
  | none => simp [U32]
  | some z => simpa using h z (List.mem_of_getElem? hi)

/-- size bytes from p on, as a number. -/
theorem mget {w : World} {m b cap : Nat} {l : List Int} (h : Lies w m b cap l) (p k : Nat) (hk : k = 1 ∨ k = 2 ∨ k = 4) (hp : p % k = 0) (hl : p < 4 * l.length) :
    Calls Try.prog 22 #[.pointer (some ⟨m, 0, none⟩), .int .i64 (p : Int), .int .i64 (k : Int)] w fun e w' => e = .returned (.int .u32 (bitsV (wordAt l (p / 4)) ((p % 4 : Nat) * 8) (8 * k))) ∧ w' = w := by
  have hq : p % 4 + k ≤ 4 := by rcases hk with rfl | rfl | rfl <;> omega
  have hpk : p + k ≤ 4 * l.length := by have := h.len; omega
  have hv := wordAt_in h.u32 (p / 4)
  rw [bits_low _ (p % 4) k hv hq (by omega)]
  have HB : Hid (∀ i, i < k → w.cell? ⟨b, p + i, none⟩ = some (.int .u8 (byteV (wordAt l (p / 4)) (p % 4 + i)))) := fun i hi => by
    rw [h.byte (p + i) (by omega)]
    unfold byteAt
    rw [show (p + i) / 4 = p / 4 by omega, show (p + i) % 4 = p % 4 + i by omega]
  have hh := h.here
  have HV : Hid (U32 (wordAt l (p / 4))) := hv
  have r1 := h.room.1
  have r2 := h.room.2
  unfold maxLen at r2
  have hn := h.len.2
  generalize 4 * l.length = n at *
  clear h hv
  generalize wordAt l (p / 4) = v at *
  have HQ : Hid (p % 4 + k ≤ 4) := hq
  clear hp hq
  generalize p % 4 = q at *
  go_enter Try.func22, Try.ntmps22
  go_wp2_with fail
  rw [show p + k - p = k by omega]
  go_loopw [7, 8, 9, 20] (fun x _ _ i wr => ∃ j : Nat, j ≤ k ∧ i = .int .i64 j ∧ x = .int .u32 (v / 2 ^ (8 * q) % 2 ^ (8 * j)) ∧ wr = w) (fun _ _ _ i _ => k - (intOf i).toNat)
  case atStart => exact ⟨0, Nat.zero_le _, rfl, by rw [Nat.mul_zero, Int.pow_zero, Int.emod_one], rfl⟩
  case round =>
    obtain ⟨j, hj, rfl, rfl, rfl⟩ := hrel
    by_cases hlt : j < k
    · have c := HB.out j hlt
      have e := byte_next v q j HV.out (by have := HQ.out; omega)
      obtain ⟨e0, e1⟩ := byteV_bd v (q + j)
      generalize byteV v (q + j) = y at *
      have HE : Hid (bits .or .u32 (v / 2 ^ (8 * q) % 2 ^ (8 * j)) (y * 2 ^ (8 * j) % 4294967296) = v / 2 ^ (8 * q) % 2 ^ (8 * (j + 1))) := e
      clear e
      go_wp2_with fail
      exact ⟨⟨j + 1, hlt, by go_num, by rw [← HE.out], trivial⟩, by simp [intOf]; omega⟩
    · have hjk : j = k := by omega
      subst hjk
      go_wp2
      go_ret
      exact ⟨rfl, rfl⟩

/-- A struct's block whose slice has n bytes in a block of their own. -/
structure Raw (w : World) (m b cap n : Nat) (f : Nat → Int) : Prop where
  room : n ≤ cap ∧ cap ≤ maxLen
  two : m ≠ b
  here : w.cell? ⟨m, 0, none⟩ = some (.slice (some ⟨b, 0, none⟩) n cap)
  byte : ∀ j, j < n → w.cell? ⟨b, j, none⟩ = some (.int .u8 (f j))
  free : ∀ j, w.frozen? ⟨b, j, none⟩ = false

/-- k bytes of x from p on. -/
def upd (f : Nat → Int) (p k : Nat) (x : Int) (j : Nat) : Int := if p ≤ j ∧ j < p + k then byteV x (j - p) else f j
theorem upd_zero (f : Nat → Int) (p : Nat) (x : Int) : upd f p 0 x = f := by
  funext j; unfold upd; rw [if_neg (by omega)]
theorem upd_next (f : Nat → Int) (p k : Nat) (x : Int) (j : Nat) : upd f p (k + 1) x j = if j = p + k then byteV x k else upd f p k x j := by
  unfold upd
  by_cases h : j = p + k
  · subst h; rw [if_pos (by omega), if_pos rfl, show p + k - p = k by omega]
  · rw [if_neg h]
    by_cases h2 : p ≤ j ∧ j < p + k
    · rw [if_pos h2, if_pos (by omega)]
    · rw [if_neg h2, if_neg (by omega)]

theorem Apart.refl (O : Nat → Prop) (w : World) : Apart O w w := ⟨rfl, rfl, rfl, Nat.le_refl _, fun _ _ _ => rfl⟩
theorem Apart.put {O : Nat → Prop} {w w' : World} {b i : Nat} (h : Apart O w w') (hb : O b) (v : Value) : Apart O w (w'.setCell ⟨b, i, none⟩ v) :=
  ⟨h.os, h.tape, h.output, by simpa [World.setCell] using h.size, fun k hk ho => (Below.heap_setCell _ _ _ _ (fun e => ho (by rw [e]; exact hb))).trans (h.block k hk ho)⟩
theorem Apart.trans {O : Nat → Prop} {w w' w'' : World} (h : Apart O w w') (h2 : Apart O w' w'') : Apart O w w'' :=
  ⟨h2.os.trans h.os, h2.tape.trans h.tape, h2.output.trans h.output, Nat.le_trans h.size h2.size, fun k hk ho => (h2.block k (Nat.lt_of_lt_of_le hk h.size) ho).trans (h.block k hk ho)⟩
theorem Apart.draw {O : Nat → Prop} {w w' : World} (h : Apart O w w') : Apart O w w'.drew := ⟨h.os, h.tape, h.output, h.size, h.block⟩

theorem Raw.put {w : World} {m b cap n : Nat} {f : Nat → Int} (h : Raw w m b cap n f) (p k : Nat) (x : Int) (hp : p + k < n) {g : Nat → Int} (hg : f = upd g p k x) :
    Raw (w.setCell ⟨b, p + k, none⟩ (.int .u8 (byteV x k))) m b cap n (upd g p (k + 1) x) := by
  subst hg
  refine ⟨h.room, h.two, ?_, fun j hj => ?_, fun j => ?_⟩
  · rw [World.cell?_of_block (Below.heap_setCell _ _ _ _ h.two)]; exact h.here
  · rw [upd_next]
    by_cases hj2 : j = p + k
    · subst hj2
      have := h.byte (p + k) hp
      simp [go_sem, this]
    · rw [if_neg hj2, ← h.byte j hj]
      simp [go_sem]
  · have := h.free j
    simp [go_sem, this]

theorem Raw.drew {w : World} {m b cap n : Nat} {f : Nat → Int} (h : Raw w m b cap n f) : Raw w.drew m b cap n f := ⟨h.room, h.two, h.here, h.byte, h.free⟩
/-- The lowest bytes of x stand from p on. -/
theorem mput {w : World} {m b cap n : Nat} {f : Nat → Int} (h : Raw w m b cap n f) (p k : Nat) (x : Int) (hx : U32 x) (k4 : k ≤ 4) (hp : p + k ≤ n) :
    Calls Try.prog 18 #[.pointer (some ⟨m, 0, none⟩), .int .i64 (p : Int), .int .i64 (k : Int), .int .u32 x] w fun e w' => e = .returned (.tuple #[]) ∧ Raw w' m b cap n (upd f p k x) ∧ Apart (· = b) w w' := by
  have R0 : Hid _ := h
  have r1 := h.room.1
  have r2 := h.room.2
  unfold maxLen at r2
  clear h
  obtain ⟨x0, x1⟩ := hx
  go_enter Try.func18, Try.ntmps18
  go_wp2_with fail
  go_loopw [8, 10] (fun _ i wr => ∃ j : Nat, j ≤ k ∧ i = .int .i64 j ∧ Hid (Raw wr m b cap n (upd f p j x) ∧ Apart (· = b) w wr)) (fun _ i _ => k - (intOf i).toNat)
  case atStart => exact ⟨0, Nat.zero_le _, rfl, by rw [upd_zero]; exact R0.out, Apart.refl _ _⟩
  case round =>
    clear R0
    obtain ⟨j, hj, rfl, hr⟩ := hrel
    by_cases hlt : j < k
    · have hh := hr.out.1.here
      have hc := hr.out.1.byte (p + j) (by omega)
      have hf := hr.out.1.free (p + j)
      go_wp2_with fail
      go_region
      go_wp2_with fail
      exact ⟨⟨j + 1, hlt, by go_num, ⟨(hr.out.1.put p j x (by omega) rfl).drew, (hr.out.2.put rfl _).draw⟩⟩, by simp [intOf]; omega⟩
    · have hjk : j = k := by omega
      subst hjk
      go_wp2
      go_end0
      exact ⟨rfl, hr.out⟩
end Go.Proofs.Ytbfliilabkjkgaa
