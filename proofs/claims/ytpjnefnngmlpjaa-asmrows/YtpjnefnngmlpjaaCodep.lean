/-
  Instructions in words, as plain functions of integers: which may be, their words, what a word is, and that these are each other's way back: no Go in sight.
-/
import Derived.RowKit
import Derived.Laws.BitsAllLaws
namespace Go.Proofs.Ytpjnefnngmlpjaa
open Go.RowKit

/-- An instruction: the bytes of its name, three registers, a number. -/
structure MIns where
  op : List UInt8
  d : Int
  a : Int
  b : Int
  m : Int

/-- How an instruction is written: its kind (a letter's number), and three numbers. -/
structure MForm where
  k : Int
  o : Int
  g : Int
  f : Int

def noForm : MForm := ⟨0, 0, 0, 0⟩

/-- The names in the document's order, each with its form. -/
def forms : List (List UInt8 × MForm) :=
  [([97, 100, 100], ⟨82, 51, 0, 0⟩),
   ([115, 117, 98], ⟨82, 51, 0, 32⟩),
   ([115, 108, 108], ⟨82, 51, 1, 0⟩),
   ([115, 108, 116], ⟨82, 51, 2, 0⟩),
   ([115, 108, 116, 117], ⟨82, 51, 3, 0⟩),
   ([120, 111, 114], ⟨82, 51, 4, 0⟩),
   ([115, 114, 108], ⟨82, 51, 5, 0⟩),
   ([115, 114, 97], ⟨82, 51, 5, 32⟩),
   ([111, 114], ⟨82, 51, 6, 0⟩),
   ([97, 110, 100], ⟨82, 51, 7, 0⟩),
   ([109, 117, 108], ⟨82, 51, 0, 1⟩),
   ([109, 117, 108, 104], ⟨82, 51, 1, 1⟩),
   ([109, 117, 108, 104, 115, 117], ⟨82, 51, 2, 1⟩),
   ([109, 117, 108, 104, 117], ⟨82, 51, 3, 1⟩),
   ([100, 105, 118], ⟨82, 51, 4, 1⟩),
   ([100, 105, 118, 117], ⟨82, 51, 5, 1⟩),
   ([114, 101, 109], ⟨82, 51, 6, 1⟩),
   ([114, 101, 109, 117], ⟨82, 51, 7, 1⟩),
   ([97, 100, 100, 105], ⟨73, 19, 0, 0⟩),
   ([115, 108, 116, 105], ⟨73, 19, 2, 0⟩),
   ([115, 108, 116, 105, 117], ⟨73, 19, 3, 0⟩),
   ([120, 111, 114, 105], ⟨73, 19, 4, 0⟩),
   ([111, 114, 105], ⟨73, 19, 6, 0⟩),
   ([97, 110, 100, 105], ⟨73, 19, 7, 0⟩),
   ([115, 108, 108, 105], ⟨83, 19, 1, 0⟩),
   ([115, 114, 108, 105], ⟨83, 19, 5, 0⟩),
   ([115, 114, 97, 105], ⟨83, 19, 5, 32⟩),
   ([108, 98], ⟨73, 3, 0, 0⟩),
   ([108, 104], ⟨73, 3, 1, 0⟩),
   ([108, 119], ⟨73, 3, 2, 0⟩),
   ([108, 98, 117], ⟨73, 3, 4, 0⟩),
   ([108, 104, 117], ⟨73, 3, 5, 0⟩),
   ([106, 97, 108, 114], ⟨73, 103, 0, 0⟩),
   ([115, 98], ⟨115, 35, 0, 0⟩),
   ([115, 104], ⟨115, 35, 1, 0⟩),
   ([115, 119], ⟨115, 35, 2, 0⟩),
   ([98, 101, 113], ⟨66, 99, 0, 0⟩),
   ([98, 110, 101], ⟨66, 99, 1, 0⟩),
   ([98, 108, 116], ⟨66, 99, 4, 0⟩),
   ([98, 103, 101], ⟨66, 99, 5, 0⟩),
   ([98, 108, 116, 117], ⟨66, 99, 6, 0⟩),
   ([98, 103, 101, 117], ⟨66, 99, 7, 0⟩),
   ([108, 117, 105], ⟨85, 55, 0, 0⟩),
   ([97, 117, 105, 112, 99], ⟨85, 23, 0, 0⟩),
   ([106, 97, 108], ⟨74, 111, 0, 0⟩),
   ([99, 115, 114, 114, 119], ⟨67, 115, 1, 0⟩),
   ([99, 115, 114, 114, 115], ⟨67, 115, 2, 0⟩),
   ([99, 115, 114, 114, 99], ⟨67, 115, 3, 0⟩),
   ([101, 99, 97, 108, 108], ⟨87, 115, 0, 0⟩),
   ([101, 98, 114, 101, 97, 107], ⟨87, 1048691, 0, 0⟩),
   ([109, 114, 101, 116], ⟨87, 807403635, 0, 0⟩),
   ([119, 102, 105], ⟨87, 273678451, 0, 0⟩),
   ([102, 101, 110, 99, 101], ⟨87, 15, 0, 0⟩)]

def formV (s : List UInt8) : MForm := (forms.lookup s).getD noForm

def regV (n : Int) : Bool := decide (0 ≤ n) && decide (n < 32)
def inV (n lo hi : Int) : Bool := decide (lo ≤ n) && decide (n ≤ hi)

/-- May fields of a form's kind be these? -/
def mayF (k : Int) (d a b m : Int) : Bool :=
  regV d && regV a && regV b &&
  (if k = 82 then decide (m = 0)
   else if k = 73 then decide (b = 0) && inV m (-2048) 2047
   else if k = 83 then decide (b = 0) && inV m 0 31
   else if k = 115 then decide (d = 0) && inV m (-2048) 2047
   else if k = 66 then decide (d = 0) && inV m (-4096) 4094 && decide (m % 2 = 0)
   else if k = 85 then decide (a = 0) && decide (b = 0) && inV m 0 1048575
   else if k = 74 then decide (a = 0) && decide (b = 0) && inV m (-1048576) 1048574 && decide (m % 2 = 0)
   else if k = 67 then decide (b = 0) && inV m 0 4095
   else if k = 87 then decide (d = 0) && decide (a = 0) && decide (b = 0) && decide (m = 0)
   else false)
def mayV (i : MIns) : Bool := mayF (formV i.op).k i.d i.a i.b i.m

/-- The word of fields by a form; 'm' is taken modulo 2^32. -/
def putF (p : MForm) (d a b n : Int) : Int :=
  let m := n % 4294967296
  if p.k = 82 then p.f * 33554432 + b * 1048576 + a * 32768 + p.g * 4096 + d * 128 + p.o
  else if p.k = 73 ∨ p.k = 67 then m % 4096 * 1048576 + a * 32768 + p.g * 4096 + d * 128 + p.o
  else if p.k = 83 then p.f * 33554432 + m * 1048576 + a * 32768 + p.g * 4096 + d * 128 + p.o
  else if p.k = 115 then m / 32 % 128 * 33554432 + b * 1048576 + a * 32768 + p.g * 4096 + m % 32 * 128 + p.o
  else if p.k = 66 then m / 4096 % 2 * 2147483648 + m / 32 % 64 * 33554432 + b * 1048576 + a * 32768 + p.g * 4096 + m / 2 % 16 * 256 + m / 2048 % 2 * 128 + p.o
  else if p.k = 85 then m * 4096 + d * 128 + p.o
  else if p.k = 74 then m / 1048576 % 2 * 2147483648 + m / 2 % 1024 * 2097152 + m / 2048 % 2 * 1048576 + m / 4096 % 256 * 4096 + d * 128 + p.o
  else p.o
def putV (i : MIns) : Int := putF (formV i.op) i.d i.a i.b i.m

/-- A number of n bits with a sign: the half of 2^n from which on it is below 0, and 2^n. -/
def sx (half full n : Int) : Int := if n < half then n else n - full

/-- What a word would be by a form: its four fields. -/
def readD (k x : Int) : Int := if k = 115 ∨ k = 66 ∨ k = 87 then 0 else x / 128 % 32
def readA (k x : Int) : Int := if k = 85 ∨ k = 74 ∨ k = 87 then 0 else x / 32768 % 32
def readB (k x : Int) : Int := if k = 82 ∨ k = 115 ∨ k = 66 then x / 1048576 % 32 else 0
def readM (k x : Int) : Int :=
  if k = 73 then sx 2048 4096 (x / 1048576)
  else if k = 67 then x / 1048576
  else if k = 83 then x / 1048576 % 32
  else if k = 115 then sx 2048 4096 (x / 33554432 * 32 + x / 128 % 32)
  else if k = 66 then sx 4096 8192 (x / 2147483648 * 4096 + x / 128 % 2 * 2048 + x / 33554432 % 64 * 32 + x / 256 % 16 * 2)
  else if k = 85 then x / 4096
  else if k = 74 then sx 1048576 2097152 (x / 2147483648 * 1048576 + x / 4096 % 256 * 4096 + x / 1048576 % 2 * 2048 + x / 2097152 % 1024 * 2)
  else 0

/-- Is the word one of that form? -/
def hasF (p : MForm) (x : Int) : Prop :=
  if p.k = 82 ∨ p.k = 83 then x % 128 = p.o ∧ x / 4096 % 8 = p.g ∧ x / 33554432 = p.f
  else if p.k = 73 ∨ p.k = 115 ∨ p.k = 66 ∨ p.k = 67 then x % 128 = p.o ∧ x / 4096 % 8 = p.g
  else if p.k = 85 ∨ p.k = 74 then x % 128 = p.o
  else if p.k = 87 then x = p.o
  else False

/-- What a form's numbers are within. -/
def goodF (p : MForm) : Prop :=
  (p.k = 82 ∨ p.k = 73 ∨ p.k = 83 ∨ p.k = 115 ∨ p.k = 66 ∨ p.k = 85 ∨ p.k = 74 ∨ p.k = 67) ∧ 0 ≤ p.o ∧ p.o < 128 ∧ 0 ≤ p.g ∧ p.g < 8 ∧ 0 ≤ p.f ∧ p.f < 128 ∨ p.k = 87 ∧ 0 ≤ p.o ∧ p.o < 4294967296

theorem regV_iff (n : Int) : regV n = true ↔ 0 ≤ n ∧ n < 32 := by unfold regV; simp
theorem inV_iff (n lo hi : Int) : inV n lo hi = true ↔ lo ≤ n ∧ n ≤ hi := by unfold inV; simp

theorem sx12 (q : Int) (h0 : 0 ≤ q) (h1 : q < 4096) : sx 2048 4096 q % 4294967296 / 32 % 128 = q / 32 ∧ sx 2048 4096 q % 4294967296 % 32 = q % 32 ∧ sx 2048 4096 q % 4294967296 % 4096 = q ∧ -2048 ≤ sx 2048 4096 q ∧ sx 2048 4096 q ≤ 2047 := by
  unfold sx; split <;> omega
theorem sx13 (q : Int) (h0 : 0 ≤ q) (h1 : q < 8192) : sx 4096 8192 q % 4294967296 / 4096 % 2 = q / 4096 ∧ sx 4096 8192 q % 4294967296 / 32 % 64 = q / 32 % 64 ∧ sx 4096 8192 q % 4294967296 / 2 % 16 = q / 2 % 16 ∧ sx 4096 8192 q % 4294967296 / 2048 % 2 = q / 2048 % 2 ∧ sx 4096 8192 q % 2 = q % 2 ∧ -4096 ≤ sx 4096 8192 q ∧ sx 4096 8192 q ≤ 4095 := by
  unfold sx; split <;> omega
theorem sx21 (q : Int) (h0 : 0 ≤ q) (h1 : q < 2097152) : sx 1048576 2097152 q % 4294967296 / 1048576 % 2 = q / 1048576 ∧ sx 1048576 2097152 q % 4294967296 / 2 % 1024 = q / 2 % 1024 ∧ sx 1048576 2097152 q % 4294967296 / 2048 % 2 = q / 2048 % 2 ∧ sx 1048576 2097152 q % 4294967296 / 4096 % 256 = q / 4096 % 256 ∧ sx 1048576 2097152 q % 2 = q % 2 ∧ -1048576 ≤ sx 1048576 2097152 q ∧ sx 1048576 2097152 q ≤ 1048575 := by
  unfold sx; split <;> omega

/-- The fields of a word, each by itself: for the three kinds whose number stands apart. -/
theorem dec_s (x : Int) (h0 : 0 ≤ x) (h1 : x < 4294967296) :
    x = x / 33554432 * 33554432 + x / 1048576 % 32 * 1048576 + x / 32768 % 32 * 32768 + x / 4096 % 8 * 4096 + x / 128 % 32 * 128 + x % 128 ∧ 0 ≤ x / 33554432 ∧ x / 33554432 < 128 := by omega
theorem dec_B (x : Int) (h0 : 0 ≤ x) (h1 : x < 4294967296) :
    x = x / 2147483648 * 2147483648 + x / 33554432 % 64 * 33554432 + x / 1048576 % 32 * 1048576 + x / 32768 % 32 * 32768 + x / 4096 % 8 * 4096 + x / 256 % 16 * 256 + x / 128 % 2 * 128 + x % 128 ∧ 0 ≤ x / 2147483648 ∧ x / 2147483648 < 2 := by
  have e1 : x / 33554432 % 64 = x / 33554432 - x / 2147483648 * 64 := by omega
  have e2 : x / 128 % 2 = x / 128 - x / 256 * 2 := by omega
  have e3 : x / 256 % 16 = x / 256 - x / 4096 * 16 := by omega
  rw [e1, e2, e3]
  omega
theorem dec_J (x : Int) (h0 : 0 ≤ x) (h1 : x < 4294967296) :
    x = x / 2147483648 * 2147483648 + x / 2097152 % 1024 * 2097152 + x / 1048576 % 2 * 1048576 + x / 4096 % 256 * 4096 + x / 128 % 32 * 128 + x % 128 ∧ 0 ≤ x / 2147483648 ∧ x / 2147483648 < 2 := by
  have e1 : x / 2097152 % 1024 = x / 2097152 - x / 2147483648 * 1024 := by omega
  have e2 : x / 1048576 % 2 = x / 1048576 - x / 2097152 * 2 := by omega
  have e3 : x / 4096 % 256 = x / 4096 - x / 1048576 * 256 := by omega
  rw [e1, e2, e3]
  omega
theorem bd_mod (y c : Int) (hc : 0 < c) : 0 ≤ y % c ∧ y % c < c := ⟨Int.emod_nonneg _ (by omega), Int.emod_lt_of_pos _ hc⟩

theorem rp_s (o g x : Int) (h : 0 ≤ o ∧ o < 128 ∧ 0 ≤ g ∧ g < 8) (h0 : 0 ≤ x) (h1 : x < 4294967296) (n : Int) (hn : n = sx 2048 4096 (x / 33554432 * 32 + x / 128 % 32)) :
    (-2048 ≤ n ∧ n ≤ 2047) ∧ (n % 4294967296 / 32 % 128 * 33554432 + x / 1048576 % 32 * 1048576 + x / 32768 % 32 * 32768 + g * 4096 + n % 32 * 128 + o = x ↔ x % 128 = o ∧ x / 4096 % 8 = g) := by
  rw [show n % 32 = n % 4294967296 % 32 by omega]
  obtain ⟨D, D0, D1⟩ := dec_s x h0 h1
  have b1 := bd_mod (x / 1048576) 32 (by omega)
  have b2 := bd_mod (x / 32768) 32 (by omega)
  have b3 := bd_mod (x / 4096) 8 (by omega)
  have b4 := bd_mod (x / 128) 32 (by omega)
  have b5 := bd_mod x 128 (by omega)
  generalize x / 33554432 = t at *
  generalize x / 1048576 % 32 = b at *
  generalize x / 32768 % 32 = a at *
  generalize x / 4096 % 8 = g' at *
  generalize x / 128 % 32 = d at *
  generalize x % 128 = o' at *
  obtain ⟨e1, e2, _, e3, e4⟩ := sx12 (t * 32 + d) (by omega) (by omega)
  rw [← hn] at e1 e2 e3 e4
  rw [e1, e2]
  refine ⟨⟨e3, e4⟩, ?_⟩
  clear e1 e2 e3 e4 hn
  have f1 : (t * 32 + d) / 32 = t := by clear D; omega
  have f2 : (t * 32 + d) % 32 = d := by clear D; omega
  rw [f1, f2]
  omega
theorem rp_B (o g x : Int) (h : 0 ≤ o ∧ o < 128 ∧ 0 ≤ g ∧ g < 8) (h0 : 0 ≤ x) (h1 : x < 4294967296) (n : Int) (hn : n = sx 4096 8192 (x / 2147483648 * 4096 + x / 128 % 2 * 2048 + x / 33554432 % 64 * 32 + x / 256 % 16 * 2)) :
    ((-4096 ≤ n ∧ n ≤ 4094) ∧ n % 2 = 0) ∧ (n % 4294967296 / 4096 % 2 * 2147483648 + n % 4294967296 / 32 % 64 * 33554432 + x / 1048576 % 32 * 1048576 + x / 32768 % 32 * 32768 + g * 4096 + n % 4294967296 / 2 % 16 * 256 + n % 4294967296 / 2048 % 2 * 128 + o = x ↔ x % 128 = o ∧ x / 4096 % 8 = g) := by
  obtain ⟨D, D0, D1⟩ := dec_B x h0 h1
  have b1 := bd_mod (x / 1048576) 32 (by omega)
  have b2 := bd_mod (x / 32768) 32 (by omega)
  have b3 := bd_mod (x / 4096) 8 (by omega)
  have b4 := bd_mod (x / 128) 2 (by omega)
  have b5 := bd_mod x 128 (by omega)
  have b6 := bd_mod (x / 33554432) 64 (by omega)
  have b7 := bd_mod (x / 256) 16 (by omega)
  generalize x / 2147483648 = t at *
  generalize x / 33554432 % 64 = v at *
  generalize x / 1048576 % 32 = b at *
  generalize x / 32768 % 32 = a at *
  generalize x / 4096 % 8 = g' at *
  generalize x / 256 % 16 = w at *
  generalize x / 128 % 2 = u at *
  generalize x % 128 = o' at *
  obtain ⟨e1, e2, e3, e4, e5, e6, e7⟩ := sx13 (t * 4096 + u * 2048 + v * 32 + w * 2) (by omega) (by omega)
  rw [← hn] at e1 e2 e3 e4 e5 e6 e7
  rw [e1, e2, e3, e4]
  have e8 : n % 2 = 0 := by rw [e5]; clear D e1 e2 e3 e4 e5 e6 e7 hn; omega
  refine ⟨⟨⟨e6, by clear D e1 e2 e3 e4 e5; omega⟩, e8⟩, ?_⟩
  clear e1 e2 e3 e4 e5 e6 e7 e8 hn
  have f1 : (t * 4096 + u * 2048 + v * 32 + w * 2) / 4096 = t := by clear D; omega
  have f2 : (t * 4096 + u * 2048 + v * 32 + w * 2) / 32 % 64 = v := by clear D; omega
  have f3 : (t * 4096 + u * 2048 + v * 32 + w * 2) / 2 % 16 = w := by clear D; omega
  have f4 : (t * 4096 + u * 2048 + v * 32 + w * 2) / 2048 % 2 = u := by clear D; omega
  rw [f1, f2, f3, f4]
  omega
theorem rp_J (o x : Int) (h0 : 0 ≤ x) (h1 : x < 4294967296) (n : Int) (hn : n = sx 1048576 2097152 (x / 2147483648 * 1048576 + x / 4096 % 256 * 4096 + x / 1048576 % 2 * 2048 + x / 2097152 % 1024 * 2)) :
    ((-1048576 ≤ n ∧ n ≤ 1048574) ∧ n % 2 = 0) ∧ (n % 4294967296 / 1048576 % 2 * 2147483648 + n % 4294967296 / 2 % 1024 * 2097152 + n % 4294967296 / 2048 % 2 * 1048576 + n % 4294967296 / 4096 % 256 * 4096 + x / 128 % 32 * 128 + o = x ↔ x % 128 = o) := by
  obtain ⟨D, D0, D1⟩ := dec_J x h0 h1
  have b1 := bd_mod (x / 2097152) 1024 (by omega)
  have b2 := bd_mod (x / 1048576) 2 (by omega)
  have b3 := bd_mod (x / 4096) 256 (by omega)
  have b4 := bd_mod (x / 128) 32 (by omega)
  have b5 := bd_mod x 128 (by omega)
  generalize x / 2147483648 = t at *
  generalize x / 2097152 % 1024 = v at *
  generalize x / 1048576 % 2 = u at *
  generalize x / 4096 % 256 = w at *
  generalize x / 128 % 32 = d at *
  generalize x % 128 = o' at *
  obtain ⟨e1, e2, e3, e4, e5, e6, e7⟩ := sx21 (t * 1048576 + w * 4096 + u * 2048 + v * 2) (by omega) (by omega)
  rw [← hn] at e1 e2 e3 e4 e5 e6 e7
  rw [e1, e2, e3, e4]
  have e8 : n % 2 = 0 := by rw [e5]; clear D e1 e2 e3 e4 e5 e6 e7 hn; omega
  refine ⟨⟨⟨e6, by clear D e1 e2 e3 e4 e5; omega⟩, e8⟩, ?_⟩
  clear e1 e2 e3 e4 e5 e6 e7 e8 hn
  have f1 : (t * 1048576 + w * 4096 + u * 2048 + v * 2) / 1048576 = t := by clear D; omega
  have f2 : (t * 1048576 + w * 4096 + u * 2048 + v * 2) / 2 % 1024 = v := by clear D; omega
  have f3 : (t * 1048576 + w * 4096 + u * 2048 + v * 2) / 2048 % 2 = u := by clear D; omega
  have f4 : (t * 1048576 + w * 4096 + u * 2048 + v * 2) / 4096 % 256 = w := by clear D; omega
  rw [f1, f2, f3, f4]
  omega

/-- A word that is of a form is what its fields make; and only one that is. -/
theorem read_put (p : MForm) (hp : goodF p) (x : Int) (h0 : 0 ≤ x) (h1 : x < 4294967296) :
    (mayF p.k (readD p.k x) (readA p.k x) (readB p.k x) (readM p.k x) = true ∧ putF p (readD p.k x) (readA p.k x) (readB p.k x) (readM p.k x) = x) ↔ hasF p x := by
  obtain ⟨k, o, g, f⟩ := p
  unfold goodF at hp
  simp only at hp ⊢
  have ra : ∀ c : Int, 0 ≤ x / c % 32 ∧ x / c % 32 < 32 := fun c => ⟨Int.emod_nonneg _ (by omega), Int.emod_lt_of_pos _ (by omega)⟩
  rcases hp with ⟨hk, h⟩ | ⟨rfl, h⟩
  · rcases hk with rfl | rfl | rfl | rfl | rfl | rfl | rfl | rfl
    · simp [mayF, putF, readD, readA, readB, readM, hasF, regV_iff, ra]
      omega
    · simp [mayF, putF, readD, readA, readB, readM, hasF, regV_iff, inV_iff, ra]
      obtain ⟨e1, e2, e3, e4, e5⟩ := sx12 (x / 1048576) (by omega) (by omega)
      generalize sx 2048 4096 (x / 1048576) = n at *
      omega
    · simp [mayF, putF, readD, readA, readB, readM, hasF, regV_iff, inV_iff, ra]
      omega
    · have H := rp_s o g x ⟨h.1, h.2.1, h.2.2.1, h.2.2.2.1⟩ h0 h1 _ rfl
      simp [mayF, putF, readD, readA, readB, readM, hasF, regV_iff, inV_iff, ra]
      rw [H.2]
      exact ⟨fun q => q.2, fun q => ⟨H.1, q⟩⟩
    · have H := rp_B o g x ⟨h.1, h.2.1, h.2.2.1, h.2.2.2.1⟩ h0 h1 _ rfl
      simp [mayF, putF, readD, readA, readB, readM, hasF, regV_iff, inV_iff, ra]
      rw [H.2]
      exact ⟨fun q => q.2, fun q => ⟨H.1, q⟩⟩
    · simp [mayF, putF, readD, readA, readB, readM, hasF, regV_iff, inV_iff, ra]
      omega
    · have H := rp_J o x h0 h1 _ rfl
      simp [mayF, putF, readD, readA, readB, readM, hasF, regV_iff, inV_iff, ra]
      rw [H.2]
      exact ⟨fun q => q.2, fun q => ⟨H.1, q⟩⟩
    · simp [mayF, putF, readD, readA, readB, readM, hasF, regV_iff, inV_iff, ra]
      omega
  · simp [mayF, putF, readD, readA, readB, readM, hasF, regV_iff]
    omega

/-- What one of these is made of, taken out of the word again. -/
theorem get_R (f b a g d o : Int) (hf : 0 ≤ f ∧ f < 128) (hb : 0 ≤ b ∧ b < 32) (ha : 0 ≤ a ∧ a < 32) (hg : 0 ≤ g ∧ g < 8) (hd : 0 ≤ d ∧ d < 32) (ho : 0 ≤ o ∧ o < 128) (x : Int)
    (hx : x = f * 33554432 + b * 1048576 + a * 32768 + g * 4096 + d * 128 + o) :
    (0 ≤ x ∧ x < 4294967296) ∧ x % 128 = o ∧ x / 128 % 32 = d ∧ x / 4096 % 8 = g ∧ x / 32768 % 32 = a ∧ x / 1048576 % 32 = b ∧ x / 33554432 = f ∧ x / 1048576 = f * 32 + b := by
  refine ⟨by omega, by omega, by omega, by omega, by omega, by omega, by omega, by omega⟩
theorem get_B (t v b a g w u o : Int) (ht : 0 ≤ t ∧ t < 2) (hv : 0 ≤ v ∧ v < 64) (hb : 0 ≤ b ∧ b < 32) (ha : 0 ≤ a ∧ a < 32) (hg : 0 ≤ g ∧ g < 8) (hw : 0 ≤ w ∧ w < 16) (hu : 0 ≤ u ∧ u < 2) (ho : 0 ≤ o ∧ o < 128) (x : Int)
    (hx : x = t * 2147483648 + v * 33554432 + b * 1048576 + a * 32768 + g * 4096 + w * 256 + u * 128 + o) :
    (0 ≤ x ∧ x < 4294967296) ∧ x % 128 = o ∧ x / 128 % 2 = u ∧ x / 256 % 16 = w ∧ x / 4096 % 8 = g ∧ x / 32768 % 32 = a ∧ x / 1048576 % 32 = b ∧ x / 33554432 % 64 = v ∧ x / 2147483648 = t := by
  refine ⟨by omega, by omega, by omega, by omega, by omega, by omega, by omega, by omega, by omega⟩
theorem get_J (t v u w d o : Int) (ht : 0 ≤ t ∧ t < 2) (hv : 0 ≤ v ∧ v < 1024) (hu : 0 ≤ u ∧ u < 2) (hw : 0 ≤ w ∧ w < 256) (hd : 0 ≤ d ∧ d < 32) (ho : 0 ≤ o ∧ o < 128) (x : Int)
    (hx : x = t * 2147483648 + v * 2097152 + u * 1048576 + w * 4096 + d * 128 + o) :
    (0 ≤ x ∧ x < 4294967296) ∧ x % 128 = o ∧ x / 128 % 32 = d ∧ x / 4096 % 256 = w ∧ x / 1048576 % 2 = u ∧ x / 2097152 % 1024 = v ∧ x / 2147483648 = t := by
  refine ⟨by omega, by omega, by omega, by omega, by omega, by omega, by omega⟩
theorem sx12_back (n : Int) (h0 : -2048 ≤ n) (h1 : n ≤ 2047) : sx 2048 4096 (n % 4294967296 % 4096) = n ∧ sx 2048 4096 (n % 4294967296 / 32 % 128 * 32 + n % 4294967296 % 32) = n := by
  unfold sx
  constructor
  · split <;> omega
  · have e : n % 4294967296 / 32 % 128 * 32 + n % 4294967296 % 32 = n % 4294967296 % 4096 := by omega
    rw [e]; split <;> omega
theorem sx13_back (n : Int) (h0 : -4096 ≤ n) (h1 : n ≤ 4094) (h2 : n % 2 = 0) : sx 4096 8192 (n % 4294967296 / 4096 % 2 * 4096 + n % 4294967296 / 2048 % 2 * 2048 + n % 4294967296 / 32 % 64 * 32 + n % 4294967296 / 2 % 16 * 2) = n := by
  have e : n % 4294967296 / 4096 % 2 * 4096 + n % 4294967296 / 2048 % 2 * 2048 + n % 4294967296 / 32 % 64 * 32 + n % 4294967296 / 2 % 16 * 2 = n % 8192 := by
    have e0 : n % 4294967296 % 8192 = n % 8192 := by omega
    generalize n % 4294967296 = m at *
    have e1 : m / 4096 % 2 = m / 4096 - m / 8192 * 2 := by omega
    have e2 : m / 2048 % 2 = m / 2048 - m / 4096 * 2 := by omega
    have e3 : m / 32 % 64 = m / 32 - m / 2048 * 64 := by omega
    have e4 : m / 2 % 16 = m / 2 - m / 32 * 16 := by omega
    rw [e1, e2, e3, e4]; omega
  rw [e]; unfold sx; split <;> omega
theorem sx21_back (n : Int) (h0 : -1048576 ≤ n) (h1 : n ≤ 1048574) (h2 : n % 2 = 0) : sx 1048576 2097152 (n % 4294967296 / 1048576 % 2 * 1048576 + n % 4294967296 / 4096 % 256 * 4096 + n % 4294967296 / 2048 % 2 * 2048 + n % 4294967296 / 2 % 1024 * 2) = n := by
  have e : n % 4294967296 / 1048576 % 2 * 1048576 + n % 4294967296 / 4096 % 256 * 4096 + n % 4294967296 / 2048 % 2 * 2048 + n % 4294967296 / 2 % 1024 * 2 = n % 2097152 := by
    have e0 : n % 4294967296 % 2097152 = n % 2097152 := by omega
    generalize n % 4294967296 = m at *
    have e1 : m / 1048576 % 2 = m / 1048576 - m / 2097152 * 2 := by omega
    have e2 : m / 4096 % 256 = m / 4096 - m / 1048576 * 256 := by omega
    have e3 : m / 2048 % 2 = m / 2048 - m / 4096 * 2 := by omega
    have e4 : m / 2 % 1024 = m / 2 - m / 2048 * 1024 := by omega
    rw [e1, e2, e3, e4]; omega
  rw [e]; unfold sx; split <;> omega

/-- The word of fields that may be is one of that form, and tells the fields again. -/
theorem put_read (p : MForm) (hp : goodF p) (d a b m : Int) (h : mayF p.k d a b m = true) (x : Int) (hx : x = putF p d a b m) :
    (0 ≤ x ∧ x < 4294967296) ∧ hasF p x ∧ readD p.k x = d ∧ readA p.k x = a ∧ readB p.k x = b ∧ readM p.k x = m := by
  obtain ⟨k, o, g, f⟩ := p
  unfold goodF at hp
  simp only at hp h hx ⊢
  rcases hp with ⟨hk, ho0, ho1, hg0, hg1, hf0, hf1⟩ | ⟨rfl, ho⟩
  · rcases hk with rfl | rfl | rfl | rfl | rfl | rfl | rfl | rfl
    · simp [mayF, regV_iff] at h
      simp [putF] at hx
      obtain ⟨⟨⟨hd, ha⟩, hb⟩, rfl⟩ := h
      obtain ⟨r0, r1, r2, r3, r4, r5, r6, r7⟩ := get_R f b a g d o ⟨hf0, hf1⟩ hb ha ⟨hg0, hg1⟩ hd ⟨ho0, ho1⟩ x hx
      simp [hasF, readD, readA, readB, readM, r1, r2, r3, r4, r5, r6]
      exact r0
    · simp [mayF, regV_iff, inV_iff] at h
      obtain ⟨⟨⟨hd, ha⟩, hb⟩, rfl, h0, h1⟩ := h
      have hx' : x = m % 4294967296 % 4096 * 1048576 + a * 32768 + g * 4096 + d * 128 + o := hx
      have hq := bd_mod (m % 4294967296) 4096 (by omega)
      have hm := (sx12_back m h0 h1).1
      generalize m % 4294967296 % 4096 = q at *
      obtain ⟨r0, r1, r2, r3, r4, r5, r6, r7⟩ := get_R (q / 32) (q % 32) a g d o ⟨by omega, by omega⟩ (bd_mod q 32 (by omega)) ha ⟨hg0, hg1⟩ hd ⟨ho0, ho1⟩ x (by rw [hx']; omega)
      have r8 : x / 1048576 = q := by rw [r7]; omega
      simp [hasF, readD, readA, readB, readM, r1, r2, r3, r4, r8, hm]
      exact r0
    · simp [mayF, regV_iff, inV_iff] at h
      obtain ⟨⟨⟨hd, ha⟩, hb⟩, rfl, h0, h1⟩ := h
      have hx' : x = f * 33554432 + m % 4294967296 * 1048576 + a * 32768 + g * 4096 + d * 128 + o := hx
      rw [show m % 4294967296 = m by omega] at hx'
      obtain ⟨r0, r1, r2, r3, r4, r5, r6, r7⟩ := get_R f m a g d o ⟨hf0, hf1⟩ ⟨h0, by omega⟩ ha ⟨hg0, hg1⟩ hd ⟨ho0, ho1⟩ x hx'
      simp [hasF, readD, readA, readB, readM, r1, r2, r3, r4, r5, r6]
      exact r0
    · simp [mayF, regV_iff, inV_iff] at h
      obtain ⟨⟨⟨hd, ha⟩, hb⟩, rfl, h0, h1⟩ := h
      have hx' : x = m % 4294967296 / 32 % 128 * 33554432 + b * 1048576 + a * 32768 + g * 4096 + m % 4294967296 % 32 * 128 + o := hx
      have hm := (sx12_back m h0 h1).2
      have q1 := bd_mod (m % 4294967296 / 32) 128 (by omega)
      have q2 := bd_mod (m % 4294967296) 32 (by omega)
      generalize m % 4294967296 / 32 % 128 = u at *
      generalize m % 4294967296 % 32 = v at *
      obtain ⟨r0, r1, r2, r3, r4, r5, r6, r7⟩ := get_R u b a g v o q1 hb ha ⟨hg0, hg1⟩ q2 ⟨ho0, ho1⟩ x hx'
      simp [hasF, readD, readA, readB, readM, r1, r2, r3, r4, r5, r6, hm]
      exact r0
    · simp [mayF, regV_iff, inV_iff] at h
      obtain ⟨⟨⟨hd, ha⟩, hb⟩, ⟨rfl, h0, h1⟩, h2⟩ := h
      have hx' : x = m % 4294967296 / 4096 % 2 * 2147483648 + m % 4294967296 / 32 % 64 * 33554432 + b * 1048576 + a * 32768 + g * 4096 + m % 4294967296 / 2 % 16 * 256 + m % 4294967296 / 2048 % 2 * 128 + o := hx
      have hm := sx13_back m h0 h1 h2
      have q1 := bd_mod (m % 4294967296 / 4096) 2 (by omega)
      have q2 := bd_mod (m % 4294967296 / 32) 64 (by omega)
      have q3 := bd_mod (m % 4294967296 / 2) 16 (by omega)
      have q4 := bd_mod (m % 4294967296 / 2048) 2 (by omega)
      generalize m % 4294967296 / 4096 % 2 = t at *
      generalize m % 4294967296 / 32 % 64 = v at *
      generalize m % 4294967296 / 2 % 16 = w at *
      generalize m % 4294967296 / 2048 % 2 = u at *
      obtain ⟨r0, r1, r2, r3, r4, r5, r6, r7, r8⟩ := get_B t v b a g w u o q1 q2 hb ha ⟨hg0, hg1⟩ q3 q4 ⟨ho0, ho1⟩ x hx'
      simp [hasF, readD, readA, readB, readM, r1, r2, r3, r4, r5, r6, r7, r8, hm]
      exact r0
    · simp [mayF, regV_iff, inV_iff] at h
      obtain ⟨⟨⟨hd, ha⟩, hb⟩, ⟨rfl, rfl⟩, h0, h1⟩ := h
      have hx' : x = m % 4294967296 * 4096 + d * 128 + o := hx
      rw [show m % 4294967296 = m by omega] at hx'
      simp [hasF, readD, readA, readB, readM]
      refine ⟨by omega, by omega, by omega, by omega⟩
    · simp [mayF, regV_iff, inV_iff] at h
      obtain ⟨⟨⟨hd, ha⟩, hb⟩, ⟨⟨rfl, rfl⟩, h0, h1⟩, h2⟩ := h
      have hx' : x = m % 4294967296 / 1048576 % 2 * 2147483648 + m % 4294967296 / 2 % 1024 * 2097152 + m % 4294967296 / 2048 % 2 * 1048576 + m % 4294967296 / 4096 % 256 * 4096 + d * 128 + o := hx
      have hm := sx21_back m h0 h1 h2
      have q1 := bd_mod (m % 4294967296 / 1048576) 2 (by omega)
      have q2 := bd_mod (m % 4294967296 / 2) 1024 (by omega)
      have q3 := bd_mod (m % 4294967296 / 2048) 2 (by omega)
      have q4 := bd_mod (m % 4294967296 / 4096) 256 (by omega)
      generalize m % 4294967296 / 1048576 % 2 = t at *
      generalize m % 4294967296 / 2 % 1024 = v at *
      generalize m % 4294967296 / 2048 % 2 = u at *
      generalize m % 4294967296 / 4096 % 256 = w at *
      obtain ⟨r0, r1, r2, r3, r4, r5, r6⟩ := get_J t v u w d o q1 q2 q3 q4 hd ⟨ho0, ho1⟩ x hx'
      simp [hasF, readD, readA, readB, readM, r1, r2, r3, r4, r5, r6, hm]
      exact r0
    · simp [mayF, regV_iff, inV_iff] at h
      obtain ⟨⟨⟨hd, ha⟩, hb⟩, rfl, h0, h1⟩ := h
      have hx' : x = m % 4294967296 % 4096 * 1048576 + a * 32768 + g * 4096 + d * 128 + o := hx
      rw [show m % 4294967296 % 4096 = m by omega] at hx'
      obtain ⟨r0, r1, r2, r3, r4, r5, r6, r7⟩ := get_R (m / 32) (m % 32) a g d o ⟨by omega, by omega⟩ (bd_mod m 32 (by omega)) ha ⟨hg0, hg1⟩ hd ⟨ho0, ho1⟩ x (by rw [hx']; omega)
      have r8 : x / 1048576 = m := by rw [r7]; omega
      simp [hasF, readD, readA, readB, readM, r1, r2, r3, r4, r8]
      exact r0
  · simp [mayF, regV_iff] at h
    have hx' : x = o := hx
    obtain ⟨⟨⟨hd, ha⟩, hb⟩, ⟨⟨rfl, rfl⟩, rfl⟩, rfl⟩ := h
    simp [hasF, readD, readA, readB, readM, hx']
    exact ho

/-! ### The document's forms -/
theorem forms_good : ∀ q ∈ forms, goodF q.2 := by simp [forms, goodF]
theorem mem_of_lookup {s : List UInt8} {p : MForm} : ∀ {l : List (List UInt8 × MForm)}, l.lookup s = some p → (s, p) ∈ l
  | [], h => by cases h
  | (a, q) :: l, h => by
    rw [List.lookup_cons] at h
    cases e : s == a with
    | true =>
      rw [e] at h
      simp only [Option.some.injEq] at h
      obtain rfl := beq_iff_eq.mp e
      subst h
      exact List.mem_cons_self
    | false =>
      rw [e] at h
      exact List.mem_cons_of_mem _ (mem_of_lookup h)
theorem lookup_isSome {s : List UInt8} {p : MForm} : ∀ {l : List (List UInt8 × MForm)}, (s, p) ∈ l → ∃ q, l.lookup s = some q
  | (a, q) :: l, h => by
    rw [List.lookup_cons]
    cases e : s == a with
    | true => exact ⟨q, rfl⟩
    | false =>
      rcases List.mem_cons.mp h with h | h
      · have : s = a := congrArg Prod.fst h
        rw [this] at e
        simp at e
      · exact lookup_isSome h

def keyO (p : MForm) : Int := p.o % 128
def keyG (p : MForm) : Int := if p.k = 87 then p.o / 4096 % 8 else p.g
def keyF (p : MForm) : Int := if p.k = 87 then p.o / 33554432 else p.f
def tellsG (p : MForm) : Bool := decide (p.k ≠ 85) && decide (p.k ≠ 74)
def tellsF (p : MForm) : Bool := decide (p.k = 82) || decide (p.k = 83) || decide (p.k = 87)
/-- No word is of both. -/
def apartB (p q : MForm) : Bool :=
  decide (keyO p ≠ keyO q) || (tellsG p && tellsG q && decide (keyG p ≠ keyG q)) || (tellsF p && tellsF q && decide (keyF p ≠ keyF q)) || (decide (p.k = 87) && decide (q.k = 87) && decide (p.o ≠ q.o))

theorem keys_of_has (p : MForm) (hp : goodF p) (x : Int) (h : hasF p x) :
    x % 128 = keyO p ∧ (tellsG p = true → x / 4096 % 8 = keyG p) ∧ (tellsF p = true → x / 33554432 = keyF p) ∧ (p.k = 87 → x = p.o) := by
  obtain ⟨k, o, g, f⟩ := p
  unfold goodF at hp
  simp only at hp
  rcases hp with ⟨hk, ho0, ho1, -⟩ | ⟨rfl, ho⟩
  · have ho : o % 128 = o := by omega
    rcases hk with rfl | rfl | rfl | rfl | rfl | rfl | rfl | rfl <;> simp [hasF] at h <;> simp [keyO, keyG, keyF, tellsG, tellsF, h, ho]
  · have h' : x = o := h
    simp [keyO, keyG, keyF, tellsG, tellsF, h']
theorem apart_spec {p q : MForm} (hp : goodF p) (hq : goodF q) (h : apartB p q = true) (x : Int) : ¬ (hasF p x ∧ hasF q x) := by
  rintro ⟨h1, h2⟩
  obtain ⟨a1, a2, a3, a4⟩ := keys_of_has p hp x h1
  obtain ⟨b1, b2, b3, b4⟩ := keys_of_has q hq x h2
  simp only [apartB, Bool.or_eq_true, Bool.and_eq_true, decide_eq_true_eq] at h
  rcases h with ((h | ⟨⟨t1, t2⟩, h⟩) | ⟨⟨t1, t2⟩, h⟩) | ⟨⟨t1, t2⟩, h⟩
  · exact h (a1 ▸ b1)
  · exact h ((a2 t1) ▸ (b2 t2))
  · exact h ((a3 t1) ▸ (b3 t2))
  · exact h ((a4 t1) ▸ (b4 t2))
theorem forms_apartB : (forms.all fun q => forms.all fun r => q.1 == r.1 || apartB q.2 r.2) = true := by decide +kernel
theorem forms_apart {q r : List UInt8 × MForm} (hq : q ∈ forms) (hr : r ∈ forms) (x : Int) (h1 : hasF q.2 x) (h2 : hasF r.2 x) : q.1 = r.1 := by
  have h := List.all_eq_true.mp (List.all_eq_true.mp forms_apartB q hq) r hr
  rcases Bool.or_eq_true _ _ ▸ h with h | h
  · exact beq_iff_eq.mp h
  · exact absurd ⟨h1, h2⟩ (apart_spec (forms_good q hq) (forms_good r hr) h x)
/-- The Bool of 'hasF'. -/
def hasB (p : MForm) (x : Int) : Bool :=
  if p.k = 82 ∨ p.k = 83 then decide (x % 128 = p.o) && decide (x / 4096 % 8 = p.g) && decide (x / 33554432 = p.f)
  else if p.k = 73 ∨ p.k = 115 ∨ p.k = 66 ∨ p.k = 67 then decide (x % 128 = p.o) && decide (x / 4096 % 8 = p.g)
  else if p.k = 85 ∨ p.k = 74 then decide (x % 128 = p.o)
  else if p.k = 87 then decide (x = p.o)
  else false
theorem hasB_iff (p : MForm) (x : Int) : hasB p x = true ↔ hasF p x := by
  unfold hasB hasF
  split
  · simp [and_assoc]
  · split
    · simp
    · split
      · simp
      · split <;> simp

/-- The instruction whose word is x, if there is one. -/
def insOf (q : List UInt8 × MForm) (x : Int) : MIns := ⟨q.1, readD q.2.k x, readA q.2.k x, readB q.2.k x, readM q.2.k x⟩
def getV (x : Int) : Option MIns := (forms.find? fun q => hasB q.2 x).map fun q => insOf q x

def sameF (p q : MForm) : Bool := p.k == q.k && p.o == q.o && p.g == q.g && p.f == q.f
theorem sameF_eq {p q : MForm} (h : sameF p q = true) : p = q := by
  obtain ⟨a, b, c, d⟩ := p
  obtain ⟨a', b', c', d'⟩ := q
  simp [sameF] at h
  obtain ⟨⟨⟨rfl, rfl⟩, rfl⟩, rfl⟩ := h
  rfl
theorem forms_sameB : (forms.all fun q => sameF (formV q.1) q.2) = true := by decide +kernel
theorem formV_of_mem {q : List UInt8 × MForm} (h : q ∈ forms) : formV q.1 = q.2 := sameF_eq (List.all_eq_true.mp forms_sameB q h)
theorem may_known {i : MIns} (h : mayV i = true) : (i.op, formV i.op) ∈ forms := by
  cases e : forms.lookup i.op with
  | none =>
    have : formV i.op = noForm := by unfold formV; rw [e]; rfl
    unfold mayV at h
    rw [this] at h
    simp [noForm, mayF] at h
  | some p =>
    have hm := mem_of_lookup e
    have : formV i.op = p := by unfold formV; rw [e]; rfl
    rw [this]; exact hm
theorem put_u32 {i : MIns} (h : mayV i = true) : 0 ≤ putV i ∧ putV i < 4294967296 :=
  (put_read (formV i.op) (forms_good _ (may_known h)) i.d i.a i.b i.m h (putV i) rfl).1
/-- An instruction that may be is told again by its word. -/
theorem get_put {i : MIns} (h : mayV i = true) : getV (putV i) = some i := by
  have hm := may_known h
  obtain ⟨hu, hh, rd, ra, rb, rm⟩ := put_read (formV i.op) (forms_good _ hm) i.d i.a i.b i.m h (putV i) rfl
  unfold getV
  cases e : forms.find? fun q => hasB q.2 (putV i) with
  | none =>
    have := List.find?_eq_none.mp e _ hm
    exact absurd ((hasB_iff _ _).mpr hh) this
  | some q =>
    have hq := List.mem_of_find?_eq_some e
    have hb0 : hasB q.2 (putV i) = true := List.find?_some (p := fun q : List UInt8 × MForm => hasB q.2 (putV i)) e
    have hb := (hasB_iff _ _).mp hb0
    have h1 : q.1 = i.op := forms_apart hq hm _ hb hh
    have h2 : q.2 = formV i.op := by rw [← h1]; exact (formV_of_mem hq).symm
    show some (insOf q (putV i)) = some i
    unfold insOf
    rw [h2, rd, ra, rb, rm, h1]
/-- What a word is may be, and has that word. -/
theorem put_get {x : Int} {i : MIns} (h0 : 0 ≤ x) (h1 : x < 4294967296) (h : getV x = some i) : mayV i = true ∧ putV i = x := by
  unfold getV at h
  cases e : forms.find? fun q => hasB q.2 x with
  | none => rw [e] at h; cases h
  | some q =>
    rw [e] at h
    have hi : insOf q x = i := Option.some.inj h
    have hq := List.mem_of_find?_eq_some e
    have hb0 : hasB q.2 x = true := List.find?_some (p := fun q : List UInt8 × MForm => hasB q.2 x) e
    have hb := (hasB_iff _ _).mp hb0
    have hf := formV_of_mem hq
    have hr := (read_put q.2 (forms_good q hq) x h0 h1).mpr hb
    subst hi
    show mayF (formV q.1).k _ _ _ _ = true ∧ putF (formV q.1) _ _ _ _ = x
    rw [hf]
    exact hr
theorem get_none {x : Int} {i : MIns} (h : getV x = none) (hm : mayV i = true) : putV i ≠ x := by
  intro e
  have := get_put hm
  rw [e, h] at this
  cases this
theorem put_inj {i j : MIns} (hi : mayV i = true) (hj : mayV j = true) (h : putV i = putV j) : i = j := by
  have a := get_put hi
  rw [h, get_put hj] at a
  exact (Option.some.inj a).symm

end Go.Proofs.Ytpjnefnngmlpjaa
