/-
  Pieces joined are the sum of what they stand for; the word that the code writes is the document's.
-/
import Derived.Test.YtpjnefnngmlpjaaCodee
namespace Go.Proofs.Ytpjnefnngmlpjaa
open Go.RowKit

/-- Pieces side by side, as a number. -/
def polyV : List (Int × Int) → Int → Int
  | [], x => x
  | p :: l, x => polyV l (x * 2 ^ p.2.toNat + p.1)
def bsum : List (Int × Int) → Nat
  | [] => 0
  | p :: l => p.2.toNat + bsum l
def fitsAll : List (Int × Int) → Prop
  | [] => True
  | p :: l => (0 ≤ p.1 ∧ p.1 < 2 ^ p.2.toNat) ∧ fitsAll l

theorem pow_le {u v : Nat} (h : u ≤ v) : (2 : Int) ^ u ≤ 2 ^ v := by
  have : (2 : Nat) ^ u ≤ 2 ^ v := Nat.pow_le_pow_right (by omega) h
  have h2 : ((2 ^ u : Nat) : Int) ≤ ((2 ^ v : Nat) : Int) := by omega
  simpa using h2
theorem joinV_poly : ∀ (l : List (Int × Int)) (x : Int) (u : Nat), fitsAll l → 0 ≤ x → x < 2 ^ u → u + bsum l ≤ 32 → joinV l x = polyV l x
  | [], _, _, _, _, _, _ => rfl
  | p :: l, x, u, hf, h0, h1, hs => by
    obtain ⟨⟨p0, p1⟩, hf⟩ := hf
    simp only [bsum] at hs
    have hpp : (0 : Int) < 2 ^ p.2.toNat := Int.pow_pos (by omega)
    have hx0 : 0 ≤ x * 2 ^ p.2.toNat := Int.mul_nonneg h0 (by omega)
    have hx1 : x * 2 ^ p.2.toNat + 2 ^ p.2.toNat ≤ 2 ^ (u + p.2.toNat) := by
      rw [Int.pow_add]
      have : (x + 1) * 2 ^ p.2.toNat ≤ 2 ^ u * 2 ^ p.2.toNat := Int.mul_le_mul_of_nonneg_right (by omega) (by omega)
      rw [Int.add_mul, Int.one_mul] at this
      exact this
    have hx2 : (2 : Int) ^ (u + p.2.toNat) ≤ 4294967296 := by
      have := pow_le (u := u + p.2.toNat) (v := 32) (by omega)
      simpa using this
    have e : bits .or .u32 (x * 2 ^ p.2.toNat % 4294967296) p.1 = x * 2 ^ p.2.toNat + p.1 := by
      rw [Int.emod_eq_of_lt hx0 (by omega)]
      exact or_add p.2.toNat (by omega) ⟨hx0, by omega⟩ p0 p1 (Int.mul_emod_left _ _)
    show joinV l (bits .or .u32 (x * 2 ^ p.2.toNat % 4294967296) p.1) = polyV l (x * 2 ^ p.2.toNat + p.1)
    rw [e]
    exact joinV_poly l _ (u + p.2.toNat) hf (by omega) (by omega) (by omega)

theorem bitsN {x : Int} (hx : U32 x) (l n : Nat) (hl : l < 32) (hn : 1 ≤ n) (h : l + n ≤ 32) : bitsV x l n = x / 2 ^ l % 2 ^ n := bitsV_int hx l n hl hn h
theorem reg_bits {d : Int} (h : 0 ≤ d ∧ d < 32) : bitsV (d % 4294967296) 0 5 = d := by
  have := bitsN (x := d % 4294967296) ⟨by omega, by omega⟩ 0 5 (by omega) (by omega) (by omega)
  simp at this
  omega
theorem small_bits {x : Int} (n : Nat) (hn : 1 ≤ n) (hn' : n ≤ 32) (hx : U32 x) (h : x < 2 ^ n) : bitsV x 0 n = x := by
  have := bitsN hx 0 n (by omega) hn (by omega)
  simp only [Int.pow_zero, Int.ediv_one] at this
  rw [Int.emod_eq_of_lt hx.1 h] at this
  exact this
/-- By kind: the word that the code writes is the document's. -/
theorem enc_82 (o g f d a b m : Int) (hk : goodF ⟨82, o, g, f⟩) (h : mayF 82 d a b m = true) :
    encV 0 o (bitsV o 0 7) (bitsV g 0 3) (bitsV f 0 7) (bitsV (d % 4294967296) 0 5) (bitsV (a % 4294967296) 0 5) (bitsV (b % 4294967296) 0 5) (m % 4294967296) = putF ⟨82, o, g, f⟩ d a b m := by
  simp [goodF] at hk
  simp [mayF, regV] at h
  have Um : U32 (m % 4294967296) := ⟨by omega, by omega⟩
  have eo : bitsV o 0 7 = o := small_bits 7 (by omega) (by omega) ⟨by omega, by omega⟩ (by simp; omega)
  have eg : bitsV g 0 3 = g := small_bits 3 (by omega) (by omega) ⟨by omega, by omega⟩ (by simp; omega)
  have ef : bitsV f 0 7 = f := small_bits 7 (by omega) (by omega) ⟨by omega, by omega⟩ (by simp; omega)
  have ed : bitsV (d % 4294967296) 0 5 = d := reg_bits ⟨by omega, by omega⟩
  have ea : bitsV (a % 4294967296) 0 5 = a := reg_bits ⟨by omega, by omega⟩
  have eb : bitsV (b % 4294967296) 0 5 = b := reg_bits ⟨by omega, by omega⟩
  have ee : ∀ o o7 g3 f7 d5 a5 b5 mm : Int, encV 0 o o7 g3 f7 d5 a5 b5 mm = joinV [(f7, 7), (b5, 5), (a5, 5), (g3, 3), (d5, 5), (o7, 7)] 0 := by intros; simp [encV]
  rw [ee]
  rw [eo, eg, ef, ed, ea, eb]
  rw [joinV_poly [(f, 7), (b, 5), (a, 5), (g, 3), (d, 5), (o, 7)] 0 0 (by simp [fitsAll]; omega) (by omega) (by simp) (by simp [bsum])]
  simp [polyV, putF]
  omega
theorem enc_73 (o g f d a b m : Int) (hk : goodF ⟨73, o, g, f⟩) (h : mayF 73 d a b m = true) :
    encV 1 o (bitsV o 0 7) (bitsV g 0 3) (bitsV f 0 7) (bitsV (d % 4294967296) 0 5) (bitsV (a % 4294967296) 0 5) (bitsV (b % 4294967296) 0 5) (m % 4294967296) = putF ⟨73, o, g, f⟩ d a b m := by
  simp [goodF] at hk
  simp [mayF, regV, inV] at h
  have Um : U32 (m % 4294967296) := ⟨by omega, by omega⟩
  have eo : bitsV o 0 7 = o := small_bits 7 (by omega) (by omega) ⟨by omega, by omega⟩ (by simp; omega)
  have eg : bitsV g 0 3 = g := small_bits 3 (by omega) (by omega) ⟨by omega, by omega⟩ (by simp; omega)
  have ef : bitsV f 0 7 = f := small_bits 7 (by omega) (by omega) ⟨by omega, by omega⟩ (by simp; omega)
  have ed : bitsV (d % 4294967296) 0 5 = d := reg_bits ⟨by omega, by omega⟩
  have ea : bitsV (a % 4294967296) 0 5 = a := reg_bits ⟨by omega, by omega⟩
  have eb : bitsV (b % 4294967296) 0 5 = b := reg_bits ⟨by omega, by omega⟩
  have hy0 : bitsV (m % 4294967296) 0 12 = (m % 4294967296) / 2 ^ 0 % 2 ^ 12 := bitsN Um 0 12 (by omega) (by omega) (by omega)
  simp at hy0
  have ee : ∀ o o7 g3 f7 d5 a5 b5 mm : Int, encV 1 o o7 g3 f7 d5 a5 b5 mm = joinV [(bitsV mm 0 12, 12), (a5, 5), (g3, 3), (d5, 5), (o7, 7)] 0 := by intros; simp [encV]
  rw [ee]
  rw [eo, eg, ed, ea]
  generalize bitsV (m % 4294967296) 0 12 = y0 at *
  rw [joinV_poly [(y0, 12), (a, 5), (g, 3), (d, 5), (o, 7)] 0 0 (by simp [fitsAll]; omega) (by omega) (by simp) (by simp [bsum])]
  simp [polyV, putF]
  omega
theorem enc_67 (o g f d a b m : Int) (hk : goodF ⟨67, o, g, f⟩) (h : mayF 67 d a b m = true) :
    encV 7 o (bitsV o 0 7) (bitsV g 0 3) (bitsV f 0 7) (bitsV (d % 4294967296) 0 5) (bitsV (a % 4294967296) 0 5) (bitsV (b % 4294967296) 0 5) (m % 4294967296) = putF ⟨67, o, g, f⟩ d a b m := by
  simp [goodF] at hk
  simp [mayF, regV, inV] at h
  have Um : U32 (m % 4294967296) := ⟨by omega, by omega⟩
  have eo : bitsV o 0 7 = o := small_bits 7 (by omega) (by omega) ⟨by omega, by omega⟩ (by simp; omega)
  have eg : bitsV g 0 3 = g := small_bits 3 (by omega) (by omega) ⟨by omega, by omega⟩ (by simp; omega)
  have ef : bitsV f 0 7 = f := small_bits 7 (by omega) (by omega) ⟨by omega, by omega⟩ (by simp; omega)
  have ed : bitsV (d % 4294967296) 0 5 = d := reg_bits ⟨by omega, by omega⟩
  have ea : bitsV (a % 4294967296) 0 5 = a := reg_bits ⟨by omega, by omega⟩
  have eb : bitsV (b % 4294967296) 0 5 = b := reg_bits ⟨by omega, by omega⟩
  have hy0 : bitsV (m % 4294967296) 0 12 = (m % 4294967296) / 2 ^ 0 % 2 ^ 12 := bitsN Um 0 12 (by omega) (by omega) (by omega)
  simp at hy0
  have ee : ∀ o o7 g3 f7 d5 a5 b5 mm : Int, encV 7 o o7 g3 f7 d5 a5 b5 mm = joinV [(bitsV mm 0 12, 12), (a5, 5), (g3, 3), (d5, 5), (o7, 7)] 0 := by intros; simp [encV]
  rw [ee]
  rw [eo, eg, ed, ea]
  generalize bitsV (m % 4294967296) 0 12 = y0 at *
  rw [joinV_poly [(y0, 12), (a, 5), (g, 3), (d, 5), (o, 7)] 0 0 (by simp [fitsAll]; omega) (by omega) (by simp) (by simp [bsum])]
  simp [polyV, putF]
  omega
theorem enc_83 (o g f d a b m : Int) (hk : goodF ⟨83, o, g, f⟩) (h : mayF 83 d a b m = true) :
    encV 2 o (bitsV o 0 7) (bitsV g 0 3) (bitsV f 0 7) (bitsV (d % 4294967296) 0 5) (bitsV (a % 4294967296) 0 5) (bitsV (b % 4294967296) 0 5) (m % 4294967296) = putF ⟨83, o, g, f⟩ d a b m := by
  simp [goodF] at hk
  simp [mayF, regV, inV] at h
  have Um : U32 (m % 4294967296) := ⟨by omega, by omega⟩
  have eo : bitsV o 0 7 = o := small_bits 7 (by omega) (by omega) ⟨by omega, by omega⟩ (by simp; omega)
  have eg : bitsV g 0 3 = g := small_bits 3 (by omega) (by omega) ⟨by omega, by omega⟩ (by simp; omega)
  have ef : bitsV f 0 7 = f := small_bits 7 (by omega) (by omega) ⟨by omega, by omega⟩ (by simp; omega)
  have ed : bitsV (d % 4294967296) 0 5 = d := reg_bits ⟨by omega, by omega⟩
  have ea : bitsV (a % 4294967296) 0 5 = a := reg_bits ⟨by omega, by omega⟩
  have eb : bitsV (b % 4294967296) 0 5 = b := reg_bits ⟨by omega, by omega⟩
  have hy0 : bitsV (m % 4294967296) 0 5 = (m % 4294967296) / 2 ^ 0 % 2 ^ 5 := bitsN Um 0 5 (by omega) (by omega) (by omega)
  simp at hy0
  have ee : ∀ o o7 g3 f7 d5 a5 b5 mm : Int, encV 2 o o7 g3 f7 d5 a5 b5 mm = joinV [(f7, 7), (bitsV mm 0 5, 5), (a5, 5), (g3, 3), (d5, 5), (o7, 7)] 0 := by intros; simp [encV]
  rw [ee]
  rw [eo, eg, ef, ed, ea]
  generalize bitsV (m % 4294967296) 0 5 = y0 at *
  rw [joinV_poly [(f, 7), (y0, 5), (a, 5), (g, 3), (d, 5), (o, 7)] 0 0 (by simp [fitsAll]; omega) (by omega) (by simp) (by simp [bsum])]
  simp [polyV, putF]
  omega
theorem enc_115 (o g f d a b m : Int) (hk : goodF ⟨115, o, g, f⟩) (h : mayF 115 d a b m = true) :
    encV 3 o (bitsV o 0 7) (bitsV g 0 3) (bitsV f 0 7) (bitsV (d % 4294967296) 0 5) (bitsV (a % 4294967296) 0 5) (bitsV (b % 4294967296) 0 5) (m % 4294967296) = putF ⟨115, o, g, f⟩ d a b m := by
  simp [goodF] at hk
  simp [mayF, regV, inV] at h
  have Um : U32 (m % 4294967296) := ⟨by omega, by omega⟩
  have eo : bitsV o 0 7 = o := small_bits 7 (by omega) (by omega) ⟨by omega, by omega⟩ (by simp; omega)
  have eg : bitsV g 0 3 = g := small_bits 3 (by omega) (by omega) ⟨by omega, by omega⟩ (by simp; omega)
  have ef : bitsV f 0 7 = f := small_bits 7 (by omega) (by omega) ⟨by omega, by omega⟩ (by simp; omega)
  have ed : bitsV (d % 4294967296) 0 5 = d := reg_bits ⟨by omega, by omega⟩
  have ea : bitsV (a % 4294967296) 0 5 = a := reg_bits ⟨by omega, by omega⟩
  have eb : bitsV (b % 4294967296) 0 5 = b := reg_bits ⟨by omega, by omega⟩
  have hy5 : bitsV (m % 4294967296) 5 7 = (m % 4294967296) / 2 ^ 5 % 2 ^ 7 := bitsN Um 5 7 (by omega) (by omega) (by omega)
  simp at hy5
  have hy0 : bitsV (m % 4294967296) 0 5 = (m % 4294967296) / 2 ^ 0 % 2 ^ 5 := bitsN Um 0 5 (by omega) (by omega) (by omega)
  simp at hy0
  have ee : ∀ o o7 g3 f7 d5 a5 b5 mm : Int, encV 3 o o7 g3 f7 d5 a5 b5 mm = joinV [(bitsV mm 5 7, 7), (b5, 5), (a5, 5), (g3, 3), (bitsV mm 0 5, 5), (o7, 7)] 0 := by intros; simp [encV]
  rw [ee]
  rw [eo, eg, ea, eb]
  generalize bitsV (m % 4294967296) 5 7 = y5 at *
  generalize bitsV (m % 4294967296) 0 5 = y0 at *
  rw [joinV_poly [(y5, 7), (b, 5), (a, 5), (g, 3), (y0, 5), (o, 7)] 0 0 (by simp [fitsAll]; omega) (by omega) (by simp) (by simp [bsum])]
  simp [polyV, putF]
  omega
theorem enc_66 (o g f d a b m : Int) (hk : goodF ⟨66, o, g, f⟩) (h : mayF 66 d a b m = true) :
    encV 4 o (bitsV o 0 7) (bitsV g 0 3) (bitsV f 0 7) (bitsV (d % 4294967296) 0 5) (bitsV (a % 4294967296) 0 5) (bitsV (b % 4294967296) 0 5) (m % 4294967296) = putF ⟨66, o, g, f⟩ d a b m := by
  simp [goodF] at hk
  simp [mayF, regV, inV] at h
  have Um : U32 (m % 4294967296) := ⟨by omega, by omega⟩
  have eo : bitsV o 0 7 = o := small_bits 7 (by omega) (by omega) ⟨by omega, by omega⟩ (by simp; omega)
  have eg : bitsV g 0 3 = g := small_bits 3 (by omega) (by omega) ⟨by omega, by omega⟩ (by simp; omega)
  have ef : bitsV f 0 7 = f := small_bits 7 (by omega) (by omega) ⟨by omega, by omega⟩ (by simp; omega)
  have ed : bitsV (d % 4294967296) 0 5 = d := reg_bits ⟨by omega, by omega⟩
  have ea : bitsV (a % 4294967296) 0 5 = a := reg_bits ⟨by omega, by omega⟩
  have eb : bitsV (b % 4294967296) 0 5 = b := reg_bits ⟨by omega, by omega⟩
  have hy12 : bitsV (m % 4294967296) 12 1 = (m % 4294967296) / 2 ^ 12 % 2 ^ 1 := bitsN Um 12 1 (by omega) (by omega) (by omega)
  simp at hy12
  have hy5 : bitsV (m % 4294967296) 5 6 = (m % 4294967296) / 2 ^ 5 % 2 ^ 6 := bitsN Um 5 6 (by omega) (by omega) (by omega)
  simp at hy5
  have hy1 : bitsV (m % 4294967296) 1 4 = (m % 4294967296) / 2 ^ 1 % 2 ^ 4 := bitsN Um 1 4 (by omega) (by omega) (by omega)
  simp at hy1
  have hy11 : bitsV (m % 4294967296) 11 1 = (m % 4294967296) / 2 ^ 11 % 2 ^ 1 := bitsN Um 11 1 (by omega) (by omega) (by omega)
  simp at hy11
  have ee : ∀ o o7 g3 f7 d5 a5 b5 mm : Int, encV 4 o o7 g3 f7 d5 a5 b5 mm = joinV [(bitsV mm 12 1, 1), (bitsV mm 5 6, 6), (b5, 5), (a5, 5), (g3, 3), (bitsV mm 1 4, 4), (bitsV mm 11 1, 1), (o7, 7)] 0 := by intros; simp [encV]
  rw [ee]
  rw [eo, eg, ea, eb]
  generalize bitsV (m % 4294967296) 12 1 = y12 at *
  generalize bitsV (m % 4294967296) 5 6 = y5 at *
  generalize bitsV (m % 4294967296) 1 4 = y1 at *
  generalize bitsV (m % 4294967296) 11 1 = y11 at *
  rw [joinV_poly [(y12, 1), (y5, 6), (b, 5), (a, 5), (g, 3), (y1, 4), (y11, 1), (o, 7)] 0 0 (by simp [fitsAll]; omega) (by omega) (by simp) (by simp [bsum])]
  simp [polyV, putF]
  omega
theorem enc_85 (o g f d a b m : Int) (hk : goodF ⟨85, o, g, f⟩) (h : mayF 85 d a b m = true) :
    encV 5 o (bitsV o 0 7) (bitsV g 0 3) (bitsV f 0 7) (bitsV (d % 4294967296) 0 5) (bitsV (a % 4294967296) 0 5) (bitsV (b % 4294967296) 0 5) (m % 4294967296) = putF ⟨85, o, g, f⟩ d a b m := by
  simp [goodF] at hk
  simp [mayF, regV, inV] at h
  have Um : U32 (m % 4294967296) := ⟨by omega, by omega⟩
  have eo : bitsV o 0 7 = o := small_bits 7 (by omega) (by omega) ⟨by omega, by omega⟩ (by simp; omega)
  have eg : bitsV g 0 3 = g := small_bits 3 (by omega) (by omega) ⟨by omega, by omega⟩ (by simp; omega)
  have ef : bitsV f 0 7 = f := small_bits 7 (by omega) (by omega) ⟨by omega, by omega⟩ (by simp; omega)
  have ed : bitsV (d % 4294967296) 0 5 = d := reg_bits ⟨by omega, by omega⟩
  have ea : bitsV (a % 4294967296) 0 5 = a := reg_bits ⟨by omega, by omega⟩
  have eb : bitsV (b % 4294967296) 0 5 = b := reg_bits ⟨by omega, by omega⟩
  have hy0 : bitsV (m % 4294967296) 0 20 = (m % 4294967296) / 2 ^ 0 % 2 ^ 20 := bitsN Um 0 20 (by omega) (by omega) (by omega)
  simp at hy0
  have ee : ∀ o o7 g3 f7 d5 a5 b5 mm : Int, encV 5 o o7 g3 f7 d5 a5 b5 mm = joinV [(bitsV mm 0 20, 20), (d5, 5), (o7, 7)] 0 := by intros; simp [encV]
  rw [ee]
  rw [eo, ed]
  generalize bitsV (m % 4294967296) 0 20 = y0 at *
  rw [joinV_poly [(y0, 20), (d, 5), (o, 7)] 0 0 (by simp [fitsAll]; omega) (by omega) (by simp) (by simp [bsum])]
  simp [polyV, putF]
  omega
theorem enc_74 (o g f d a b m : Int) (hk : goodF ⟨74, o, g, f⟩) (h : mayF 74 d a b m = true) :
    encV 6 o (bitsV o 0 7) (bitsV g 0 3) (bitsV f 0 7) (bitsV (d % 4294967296) 0 5) (bitsV (a % 4294967296) 0 5) (bitsV (b % 4294967296) 0 5) (m % 4294967296) = putF ⟨74, o, g, f⟩ d a b m := by
  simp [goodF] at hk
  simp [mayF, regV, inV] at h
  have Um : U32 (m % 4294967296) := ⟨by omega, by omega⟩
  have eo : bitsV o 0 7 = o := small_bits 7 (by omega) (by omega) ⟨by omega, by omega⟩ (by simp; omega)
  have eg : bitsV g 0 3 = g := small_bits 3 (by omega) (by omega) ⟨by omega, by omega⟩ (by simp; omega)
  have ef : bitsV f 0 7 = f := small_bits 7 (by omega) (by omega) ⟨by omega, by omega⟩ (by simp; omega)
  have ed : bitsV (d % 4294967296) 0 5 = d := reg_bits ⟨by omega, by omega⟩
  have ea : bitsV (a % 4294967296) 0 5 = a := reg_bits ⟨by omega, by omega⟩
  have eb : bitsV (b % 4294967296) 0 5 = b := reg_bits ⟨by omega, by omega⟩
  have hy20 : bitsV (m % 4294967296) 20 1 = (m % 4294967296) / 2 ^ 20 % 2 ^ 1 := bitsN Um 20 1 (by omega) (by omega) (by omega)
  simp at hy20
  have hy1 : bitsV (m % 4294967296) 1 10 = (m % 4294967296) / 2 ^ 1 % 2 ^ 10 := bitsN Um 1 10 (by omega) (by omega) (by omega)
  simp at hy1
  have hy11 : bitsV (m % 4294967296) 11 1 = (m % 4294967296) / 2 ^ 11 % 2 ^ 1 := bitsN Um 11 1 (by omega) (by omega) (by omega)
  simp at hy11
  have hy12 : bitsV (m % 4294967296) 12 8 = (m % 4294967296) / 2 ^ 12 % 2 ^ 8 := bitsN Um 12 8 (by omega) (by omega) (by omega)
  simp at hy12
  have ee : ∀ o o7 g3 f7 d5 a5 b5 mm : Int, encV 6 o o7 g3 f7 d5 a5 b5 mm = joinV [(bitsV mm 20 1, 1), (bitsV mm 1 10, 10), (bitsV mm 11 1, 1), (bitsV mm 12 8, 8), (d5, 5), (o7, 7)] 0 := by intros; simp [encV]
  rw [ee]
  rw [eo, ed]
  generalize bitsV (m % 4294967296) 20 1 = y20 at *
  generalize bitsV (m % 4294967296) 1 10 = y1 at *
  generalize bitsV (m % 4294967296) 11 1 = y11 at *
  generalize bitsV (m % 4294967296) 12 8 = y12 at *
  rw [joinV_poly [(y20, 1), (y1, 10), (y11, 1), (y12, 8), (d, 5), (o, 7)] 0 0 (by simp [fitsAll]; omega) (by omega) (by simp) (by simp [bsum])]
  simp [polyV, putF]
  omega
theorem enc_put (k o g f d a b m : Int) (hk : goodF ⟨k, o, g, f⟩) (h : mayF k d a b m = true) :
    encV (lay9 k) o (bitsV o 0 7) (bitsV g 0 3) (bitsV f 0 7) (bitsV (d % 4294967296) 0 5) (bitsV (a % 4294967296) 0 5) (bitsV (b % 4294967296) 0 5) (m % 4294967296) = putF ⟨k, o, g, f⟩ d a b m := by
  have hk' := hk
  unfold goodF at hk'
  simp only at hk'
  rcases hk' with ⟨rfl | rfl | rfl | rfl | rfl | rfl | rfl | rfl, _⟩ | ⟨rfl, _⟩
  · exact enc_82 o g f d a b m hk h
  · exact enc_73 o g f d a b m hk h
  · exact enc_83 o g f d a b m hk h
  · exact enc_115 o g f d a b m hk h
  · exact enc_66 o g f d a b m hk h
  · exact enc_85 o g f d a b m hk h
  · exact enc_74 o g f d a b m hk h
  · exact enc_67 o g f d a b m hk h
  · simp [lay9, encV, putF]
end Go.Proofs.Ytpjnefnngmlpjaa
