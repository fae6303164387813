/-
  What the statements on memory need of package mem: a memory is to the world its words and the blocks that are its own. (The program's own text comes in by an instance; nothing here looks into it.)
-/
import Derived.Test.YtbfliilabkjkgaaMemt
import Derived.Test.YtbfliilabkjkgaaSame
namespace Go.Proofs.Ytbfliilabkjkgaa
open Go.RowKit

def storeL (l : List Int) (p k x : Int) : List Int := if askV l.length p k = 0 then l.set (p / 4).toNat (storeV (wordAt l (p / 4).toNat) p k x) else l

/-- Nothing but the blocks O, and new ones, was touched. -/
structure Apart (O : Nat → Prop) (w w' : World) : Prop where
  os : w'.os = w.os
  tape : w'.tape = w.tape
  output : w'.output = w.output
  size : w.heap.size ≤ w'.heap.size
  block : ∀ k, k < w.heap.size → ¬ O k → w'.heap[k]? = w.heap[k]?

/-- What a memory is to the world. -/
structure MemK (Is : World → Addr → List Int → (Nat → Prop) → Prop) : Prop where
  keep : ∀ {w w' : World} {m : Addr} {l : List Int} {O : Nat → Prop}, Is w m l O → (∀ b, O b → w'.heap[b]? = w.heap[b]?) → Is w' m l O
  own : ∀ {w : World} {m : Addr} {l : List Int} {O : Nat → Prop} {b : Nat}, Is w m l O → O b → b < w.heap.size
  new : ∀ (b o n cap : Nat) (l : List Int) (w : World), n = l.length → 1 ≤ n → n ≤ 65536 → n ≤ cap → (∀ x ∈ l, U32 x) → (∀ i, i < n → w.cell? ⟨b, o + i, Option.none⟩ = some (.int .u32 (wordAt l i))) →
    Calls Try.prog 9 #[.slice (some ⟨b, o, Option.none⟩) n cap] w fun e w' => ∃ m O, e = .returned (.tuple #[.pointer (some m), .int .i64 0]) ∧ Is w' m l O ∧ (∀ k, O k → w.heap.size ≤ k) ∧ Below w.heap.size w w'
  none : ∀ (a : Option Addr) (n cap : Nat) (w : World), n = 0 ∨ 65536 < n → n ≤ 1000000000 →
    Calls Try.prog 9 #[.slice a n cap] w fun e w' => e = .returned (.tuple #[.pointer Option.none, .int .i64 1]) ∧ Below w.heap.size w w'
  load : ∀ {w : World} {m : Addr} {l : List Int} {O : Nat → Prop}, Is w m l O → ∀ (p k : Int) (s : Bool), U32 p →
    Calls Try.prog 13 #[.pointer (some m), .int .u32 p, .int .i64 k, .bool s] w fun e w' => e = .returned (.tuple #[.int .u32 (loadN l.length l p k s), .int .i64 (askV l.length p k)]) ∧ Below w.heap.size w w'
  store : ∀ {w : World} {m : Addr} {l : List Int} {O : Nat → Prop}, Is w m l O → ∀ (p k x : Int), U32 p → U32 x →
    Calls Try.prog 11 #[.pointer (some m), .int .u32 p, .int .i64 k, .int .u32 x] w fun e w' => e = .returned (.int .i64 (askV l.length p k)) ∧ (∃ O', Is w' m (storeL l p k x) O' ∧ ∀ b, O' b → O b ∨ w.heap.size ≤ b) ∧ Apart O w w'
  words : ∀ {w : World} {m : Addr} {l : List Int} {O : Nat → Prop}, Is w m l O →
    Calls Try.prog 16 #[.pointer (some m)] w fun e w' => ∃ b cap, e = .returned (.slice (some ⟨b, 0, Option.none⟩) l.length cap) ∧ w.heap.size ≤ b ∧ b < w'.heap.size ∧ (∀ i, i < l.length → w'.cell? ⟨b, i, Option.none⟩ = some (.int .u32 (wordAt l i))) ∧ (∀ i, w'.frozen? ⟨b, i, Option.none⟩ = false) ∧ Below w.heap.size w w'
  size : ∀ {w : World} {m : Addr} {l : List Int} {O : Nat → Prop}, Is w m l O →
    Calls Try.prog 17 #[.pointer (some m)] w fun e w' => e = .returned (.int .u32 (4 * l.length)) ∧ Below w.heap.size w w'
  load0 : ∀ (p k : Int) (s : Bool) (w : World), Calls Try.prog 13 #[.pointer Option.none, .int .u32 p, .int .i64 k, .bool s] w fun e w' => e = .returned (.tuple #[.int .u32 0, .int .i64 2]) ∧ Below w.heap.size w w'
  store0 : ∀ (p k x : Int) (w : World), Calls Try.prog 11 #[.pointer Option.none, .int .u32 p, .int .i64 k, .int .u32 x] w fun e w' => e = .returned (.int .i64 2) ∧ Below w.heap.size w w'
  words0 : ∀ (w : World), Calls Try.prog 16 #[.pointer Option.none] w fun e w' => (∃ a cap, e = .returned (.slice a 0 cap)) ∧ Below w.heap.size w w'
  size0 : ∀ (w : World), Calls Try.prog 17 #[.pointer Option.none] w fun e w' => e = .returned (.int .u32 0) ∧ Below w.heap.size w w'

theorem MemK.below {Is : World → Addr → List Int → (Nat → Prop) → Prop} (K : MemK Is) {w w' : World} {m : Addr} {l : List Int} {O : Nat → Prop} (h : Is w m l O) (hb : Below w.heap.size w w') : Is w' m l O :=
  K.keep h fun b ob => hb.block b (K.own h ob)
theorem Apart.below {O : Nat → Prop} {w0 w w' : World} (hb : Below w0.heap.size w0 w) (h : Apart O w w') (hO : ∀ k, O k → w0.heap.size ≤ k) : Below w0.heap.size w0 w' :=
  ⟨h.os.trans hb.os, h.tape.trans hb.tape, h.output.trans hb.output, Nat.le_trans hb.size h.size, fun k hk => (h.block k (Nat.lt_of_lt_of_le hk hb.size) fun o => absurd (hO k o) (by omega)).trans (hb.block k hk)⟩
theorem MemK.loads {Is : World → Addr → List Int → (Nat → Prop) → Prop} (K : MemK Is) {w : World} {m : Addr} {l : List Int} {O : Nat → Prop} (h : Is w m l O) (p k : Int) (s : Bool) (x f : Int) (hp : U32 p) (hx : loadN l.length l p k s = x) (hf : askV l.length p k = f) :
    Calls Try.prog 13 #[.pointer (some m), .int .u32 p, .int .i64 k, .bool s] w fun e w' => e = .returned (.tuple #[.int .u32 x, .int .i64 f]) ∧ Is w' m l O ∧ Below w.heap.size w w' := by
  subst hx hf
  exact (K.load h p k s hp).mono fun _ _ ⟨a, b⟩ => ⟨a, K.below h b, b⟩
theorem MemK.stores {Is : World → Addr → List Int → (Nat → Prop) → Prop} (K : MemK Is) {w : World} {m : Addr} {l : List Int} {O : Nat → Prop} (h : Is w m l O) (p k x f : Int) (l' : List Int) (hp : U32 p) (hx : U32 x) (hl : storeL l p k x = l') (hf : askV l.length p k = f) :
    Calls Try.prog 11 #[.pointer (some m), .int .u32 p, .int .i64 k, .int .u32 x] w fun e w' => e = .returned (.int .i64 f) ∧ (∃ O', Is w' m l' O' ∧ ∀ b, O' b → O b ∨ w.heap.size ≤ b) ∧ Apart O w w' := by
  subst hl hf
  exact K.store h p k x hp hx
theorem MemK.sizes {Is : World → Addr → List Int → (Nat → Prop) → Prop} (K : MemK Is) {w : World} {m : Addr} {l : List Int} {O : Nat → Prop} (h : Is w m l O) (n : Int) (hn : 4 * (l.length : Int) = n) :
    Calls Try.prog 17 #[.pointer (some m)] w fun e w' => e = .returned (.int .u32 n) ∧ Is w' m l O ∧ Below w.heap.size w w' := by
  subst hn
  exact (K.size h).mono fun _ _ ⟨a, b⟩ => ⟨a, K.below h b, b⟩
end Go.Proofs.Ytbfliilabkjkgaa
