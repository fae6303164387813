/-
  Package lex: a string's two first bytes copied into a pair of bytes; signLen.
-/
import Derived.Test.YtjgpojjbjgdfkaaDoorLxt
import Derived.Laws.CopyOwn
namespace Go.Proofs.YtjgpojjbjgdfkaaDoor
open Go.RowKit

theorem byteV_extract {S : ByteArray} {p : Nat} (h : p ≤ S.size) (k : Nat) : byteV (S.extract p S.size) k = byteV S (p + k) := by
  unfold byteV
  have hs : (S.extract p S.size).size = S.size - p := by rw [ByteArray.size_extract]; omega
  by_cases hk : p + k < S.size
  · rw [dif_pos (by omega), dif_pos hk, ByteArray.getElem_extract]
  · rw [dif_neg (by omega), dif_neg hk]
theorem copy_two {w : World} {g : Nat} {s : ByteArray} {t : TypeId} (ty : TypeId) (hg : w.heap[g]? = some (.cells #[.int .u8 0, .int .u8 0] t (0, 0))) (hs : 0 < s.size) :
    (Builtin.copy_ #[26, 9] ty #[.slice (some ⟨g, 0, none⟩) 2 2, .string s]).run Tryd.prog w = .ok (goInt (Nat.min s.size 2)) (w.setRow g #[.int .u8 (byteV s 0), .int .u8 (byteV s 1)]) := by
  have hu : Tryd.prog.underlying 26 = some (.slice 5) := by kernel_rfl
  have hz : (Tryd.prog.info? 5).map (·.size) = some 1 := by kernel_rfl
  obtain ⟨i, hi, _⟩ : ∃ i, Tryd.prog.info? 5 = some i ∧ i.size = 1 := by
    cases hq : Tryd.prog.info? 5 with
    | none => simp [hq] at hz
    | some i => exact ⟨i, rfl, by simpa [hq] using hz⟩
  rcases s with ⟨⟨l⟩⟩
  match l, hs with
  | [a], _ =>
    have hst := run_storeCells_at Tryd.prog g 0 t [.int .u8 a.toNat] 0 _ w hg (by simp) (by simp [Value.oneCell'])
    have hsz : (ByteArray.mk ⟨[a]⟩).size = 1 := rfl
    have hb0 : byteV ⟨⟨[a]⟩⟩ 0 = a.toNat := rfl
    have hb1 : byteV ⟨⟨[a]⟩⟩ 1 = 0 := rfl
    have hmn : Nat.min 1 2 = 1 := rfl
    rw [hb0, hb1]
    simp only [List.length_cons, List.length_nil, Nat.zero_add, List.take_zero, List.nil_append, List.drop_succ_cons, List.drop_zero] at hst
    simp [Builtin.copy_, run_underlying hu, Builtin.lenOf, Builtin.firstCells, sizeOf, typeInfo, hi, hsz, hmn, hst]
  | a :: b :: r, _ =>
    have hst := run_storeCells_at Tryd.prog g 0 t [.int .u8 a.toNat, .int .u8 b.toNat] 0 _ w hg (by simp) (by simp [Value.oneCell'])
    have hsz : (ByteArray.mk ⟨a :: b :: r⟩).size = r.length + 2 := rfl
    have hb0 : byteV ⟨⟨a :: b :: r⟩⟩ 0 = a.toNat := rfl
    have hb1 : byteV ⟨⟨a :: b :: r⟩⟩ 1 = b.toNat := rfl
    have hmn : Nat.min (r.length + 2) 2 = 2 := Nat.min_eq_right (by omega)
    rw [hb0, hb1]
    simp only [List.length_cons, List.length_nil, Nat.zero_add, List.take_zero, List.nil_append, List.drop_succ_cons, List.drop_zero] at hst
    simp [Builtin.copy_, run_underlying hu, Builtin.lenOf, Builtin.firstCells, sizeOf, typeInfo, hi, hsz, hmn, hst]
/-- A reader above base B: its source, and its map of signs, if it is made. -/
structure Rd (B : Nat) (w : World) (rb : Nat) (S : ByteArray) : Prop where
  base : B ≤ rb
  at_ : ∃ m, RdAt w rb S m ∧ ∀ g, m = some g → B ≤ g ∧ g ≠ rb ∧ ∃ n, MapP w g n signV
theorem Rd.lt {B : Nat} {w : World} {rb : Nat} {S : ByteArray} (h : Rd B w rb S) : rb < w.heap.size := by
  obtain ⟨_, m, h1, _⟩ := h
  exact (Array.getElem?_eq_some_iff.1 h1).1
theorem Rd.kept {B : Nat} {w w' : World} {rb : Nat} {S : ByteArray} (h : Rd B w rb S) (hb : Below w.heap.size w w') : Rd B w' rb S := by
  obtain ⟨h0, m, h1, h2⟩ := h
  refine ⟨h0, m, kept_on h1 hb, fun g hg => ?_⟩
  obtain ⟨a, b, n, c⟩ := h2 g hg
  exact ⟨a, b, n, mapP_kept c hb⟩
/-- How long the longest sign is that stands at p. -/
def signN (S : ByteArray) (p : Nat) : Int := match signV (byteV S p) (byteV S (p + 1)) with | some n => n | none => (signV (byteV S p) 0).getD 0
theorem byteV_u8 (S : ByteArray) (k : Nat) : U8 (byteV S k) := by
  unfold byteV U8
  split
  · rename_i h
    have := (S[k]'h).toNat_lt
    omega
  · omega
/-- Of what was there nothing has turned but block rb. -/
def Only (rb : Nat) (w w' : World) : Prop := Below 0 w w' ∧ ∀ k, k ≠ rb → k < w.heap.size → w'.heap[k]? = w.heap[k]?
theorem Only.of_below {rb : Nat} {w w' : World} (h : Below w.heap.size w w') : Only rb w w' := ⟨h.mono (Nat.zero_le _), fun k _ hk => h.block k hk⟩
theorem Only.trans {rb : Nat} {w w1 w2 : World} (h : Only rb w w1) (h2 : Only rb w1 w2) : Only rb w w2 :=
  ⟨h.1.trans h2.1, fun k hk hl => by
    have := h.1.size
    rw [h2.2 k hk (by omega), h.2 k hk hl]⟩
theorem Only.set {rb i : Nat} {w w1 : World} (h : Only rb w w1) (v : Value) : Only rb w (w1.setCell ⟨rb, i, none⟩ v) :=
  ⟨h.1.setCell (Nat.zero_le _) _, fun k hk hl => by rw [Below.heap_setCell _ _ _ _ hk, h.2 k hk hl]⟩
theorem Only.below {rb B : Nat} {w w' : World} (h : Only rb w w') (hB : B ≤ rb) (hl : rb < w.heap.size) : Below B w w' :=
  ⟨h.1.os, h.1.tape, h.1.output, h.1.size, fun k hk => h.2 k (by omega) (by omega)⟩
theorem Only.kept {rb b : Nat} {w w' : World} {ob : Obj} (h : Only rb w w') (hk : w.heap[b]? = some ob) (hne : b ≠ rb) : w'.heap[b]? = some ob := by
  rw [h.2 b hne (Array.getElem?_eq_some_iff.1 hk).1]; exact hk
end Go.Proofs.YtjgpojjbjgdfkaaDoor
