/-
  What any word is, as the code tells it: the contract of the function that does it.
-/
import Derived.Test.YtbdfaepljgajbaaCoded
import Derived.Test.YtbdfaepljgajbaaCodez
import Derived.Test.YtbdfaepljgajbaaRefr
namespace Go.Proofs.Ytbdfaepljgajbaa
open Go.RowKit

theorem bx (x : Int) (hx : U32 x) (l n : Nat) (hl : l < 32) (hn : 1 ≤ n) (h : l + n ≤ 32) : bitsV x l n = x / 2 ^ l % 2 ^ n := bitsN hx l n hl hn h
theorem small32 {v : Int} (h0 : 0 ≤ v) (h1 : v < 2147483648) : wrap32 v = v := by unfold wrap32; omega
theorem zero_bits : bitsV 0 0 1 = 0 := by decide
theorem decM_0 (x : Int) : decM 0 x = readM 82 x := by
  simp [decM, readM]
theorem decM_1 (x : Int) (hx : U32 x) : decM 1 x = readM 73 x := by
  obtain ⟨x0, x1⟩ := hx
  have hx : U32 x := ⟨x0, x1⟩
  have h20_12 : bitsV x 20 12 = x / 2 ^ 20 % 2 ^ 12 := bx x hx 20 12 (by omega) (by omega) (by omega)
  simp at h20_12
  have e : decM 1 x = wrap32 (sextV (bitsV x 20 12) 12) := by simp [decM]
  rw [e, ws12 (by omega) (by omega)]
  have e2 : readM 73 x = sx 2048 4096 (x / 1048576) := by simp [readM]
  rw [e2, h20_12]
  congr 1
  omega
theorem decM_2 (x : Int) (hx : U32 x) : decM 2 x = readM 83 x := by
  obtain ⟨x0, x1⟩ := hx
  have hx : U32 x := ⟨x0, x1⟩
  have h20_5 : bitsV x 20 5 = x / 2 ^ 20 % 2 ^ 5 := bx x hx 20 5 (by omega) (by omega) (by omega)
  simp at h20_5
  have e : decM 2 x = wrap32 (bitsV x 20 5) := by simp [decM]
  rw [e, small32 (by omega) (by omega), h20_5]
  simp [readM]
theorem decM_3 (x : Int) (hx : U32 x) : decM 3 x = readM 115 x := by
  obtain ⟨x0, x1⟩ := hx
  have hx : U32 x := ⟨x0, x1⟩
  have h25_7 : bitsV x 25 7 = x / 2 ^ 25 % 2 ^ 7 := bx x hx 25 7 (by omega) (by omega) (by omega)
  simp at h25_7
  have h7_5 : bitsV x 7 5 = x / 2 ^ 7 % 2 ^ 5 := bx x hx 7 5 (by omega) (by omega) (by omega)
  simp at h7_5
  have e : decM 3 x = wrap32 (sextV (joinV [(bitsV x 25 7, 7), (bitsV x 7 5, 5)] 0) 12) := by simp [decM]
  rw [e]
  generalize bitsV x 25 7 = y25 at *
  generalize bitsV x 7 5 = y7 at *
  rw [joinV_poly [(y25, 7), (y7, 5)] 0 0 (by simp [fitsAll]; omega) (by omega) (by simp) (by simp [bsum])]
  simp [polyV]
  rw [ws12 (by omega) (by omega)]
  simp only [readM]
  simp
  congr 1
  omega
theorem decM_4 (x : Int) (hx : U32 x) : decM 4 x = readM 66 x := by
  obtain ⟨x0, x1⟩ := hx
  have hx : U32 x := ⟨x0, x1⟩
  have h31_1 : bitsV x 31 1 = x / 2 ^ 31 % 2 ^ 1 := bx x hx 31 1 (by omega) (by omega) (by omega)
  simp at h31_1
  have h7_1 : bitsV x 7 1 = x / 2 ^ 7 % 2 ^ 1 := bx x hx 7 1 (by omega) (by omega) (by omega)
  simp at h7_1
  have h25_6 : bitsV x 25 6 = x / 2 ^ 25 % 2 ^ 6 := bx x hx 25 6 (by omega) (by omega) (by omega)
  simp at h25_6
  have h8_4 : bitsV x 8 4 = x / 2 ^ 8 % 2 ^ 4 := bx x hx 8 4 (by omega) (by omega) (by omega)
  simp at h8_4
  have e : decM 4 x = wrap32 (sextV (joinV [(bitsV x 31 1, 1), (bitsV x 7 1, 1), (bitsV x 25 6, 6), (bitsV x 8 4, 4), (bitsV 0 0 1, 1)] 0) 13) := by simp [decM]
  rw [e]
  rw [zero_bits]
  generalize bitsV x 31 1 = y31 at *
  generalize bitsV x 7 1 = y7 at *
  generalize bitsV x 25 6 = y25 at *
  generalize bitsV x 8 4 = y8 at *
  rw [joinV_poly [(y31, 1), (y7, 1), (y25, 6), (y8, 4), (0, 1)] 0 0 (by simp [fitsAll]; omega) (by omega) (by simp) (by simp [bsum])]
  simp [polyV]
  rw [ws13 (by omega) (by omega)]
  simp only [readM]
  simp
  congr 1
  omega
theorem decM_5 (x : Int) (hx : U32 x) : decM 5 x = readM 85 x := by
  obtain ⟨x0, x1⟩ := hx
  have hx : U32 x := ⟨x0, x1⟩
  have h12_20 : bitsV x 12 20 = x / 2 ^ 12 % 2 ^ 20 := bx x hx 12 20 (by omega) (by omega) (by omega)
  simp at h12_20
  have e : decM 5 x = wrap32 (bitsV x 12 20) := by simp [decM]
  rw [e, small32 (by omega) (by omega), h12_20]
  simp [readM]
  omega
theorem decM_6 (x : Int) (hx : U32 x) : decM 6 x = readM 74 x := by
  obtain ⟨x0, x1⟩ := hx
  have hx : U32 x := ⟨x0, x1⟩
  have h31_1 : bitsV x 31 1 = x / 2 ^ 31 % 2 ^ 1 := bx x hx 31 1 (by omega) (by omega) (by omega)
  simp at h31_1
  have h12_8 : bitsV x 12 8 = x / 2 ^ 12 % 2 ^ 8 := bx x hx 12 8 (by omega) (by omega) (by omega)
  simp at h12_8
  have h20_1 : bitsV x 20 1 = x / 2 ^ 20 % 2 ^ 1 := bx x hx 20 1 (by omega) (by omega) (by omega)
  simp at h20_1
  have h21_10 : bitsV x 21 10 = x / 2 ^ 21 % 2 ^ 10 := bx x hx 21 10 (by omega) (by omega) (by omega)
  simp at h21_10
  have e : decM 6 x = wrap32 (sextV (joinV [(bitsV x 31 1, 1), (bitsV x 12 8, 8), (bitsV x 20 1, 1), (bitsV x 21 10, 10), (bitsV 0 0 1, 1)] 0) 21) := by simp [decM]
  rw [e]
  rw [zero_bits]
  generalize bitsV x 31 1 = y31 at *
  generalize bitsV x 12 8 = y12 at *
  generalize bitsV x 20 1 = y20 at *
  generalize bitsV x 21 10 = y21 at *
  rw [joinV_poly [(y31, 1), (y12, 8), (y20, 1), (y21, 10), (0, 1)] 0 0 (by simp [fitsAll]; omega) (by omega) (by simp) (by simp [bsum])]
  simp [polyV]
  rw [ws21 (by omega) (by omega)]
  simp only [readM]
  simp
  congr 1
  omega
theorem decM_7 (x : Int) (hx : U32 x) : decM 7 x = readM 67 x := by
  obtain ⟨x0, x1⟩ := hx
  have hx : U32 x := ⟨x0, x1⟩
  have h20_12 : bitsV x 20 12 = x / 2 ^ 20 % 2 ^ 12 := bx x hx 20 12 (by omega) (by omega) (by omega)
  simp at h20_12
  have e : decM 7 x = wrap32 (bitsV x 20 12) := by simp [decM]
  rw [e, small32 (by omega) (by omega), h20_12]
  simp [readM]
  omega
theorem decM_8 (x : Int) : decM 8 x = readM 87 x := by
  simp [decM, readM]

theorem cdecode (s : ByteArray) (k o g f x : Int) (hk : k = 82 ∨ k = 73 ∨ k = 83 ∨ k = 115 ∨ k = 66 ∨ k = 85 ∨ k = 74 ∨ k = 67 ∨ k = 87) (hx : U32 x) (w : World) :
    Calls Try.prog 25 #[.agg #[.string s, .int .i64 (lay9 k), .int .u32 o, .int .u32 f, .int .u32 g], .int .u32 x] w fun e w' => e = .returned (.agg #[.string s, .int .i64 (readD k x), .int .i64 (readA k x), .int .i64 (readB k x), .int .i32 (readM k x)]) ∧ Below w.heap.size w w' := by
  have hd : bitsV x 7 5 = x / 2 ^ 7 % 2 ^ 5 := bx x hx 7 5 (by omega) (by omega) (by omega)
  have ha : bitsV x 15 5 = x / 2 ^ 15 % 2 ^ 5 := bx x hx 15 5 (by omega) (by omega) (by omega)
  have hb : bitsV x 20 5 = x / 2 ^ 20 % 2 ^ 5 := bx x hx 20 5 (by omega) (by omega) (by omega)
  simp at hd ha hb
  rcases hk with rfl | rfl | rfl | rfl | rfl | rfl | rfl | rfl | rfl
  · refine (dec_0 s (lay9 82) o f g x rfl hx w).mono ?_
    rintro e w' ⟨rfl, h⟩
    refine ⟨?_, h⟩
    rw [decM_0 x]
    simp [readD, readA, readB, hd, ha, hb]
  · refine (dec_1 s (lay9 73) o f g x rfl hx w).mono ?_
    rintro e w' ⟨rfl, h⟩
    refine ⟨?_, h⟩
    rw [decM_1 x hx]
    simp [readD, readA, readB, hd, ha]
  · refine (dec_2 s (lay9 83) o f g x rfl hx w).mono ?_
    rintro e w' ⟨rfl, h⟩
    refine ⟨?_, h⟩
    rw [decM_2 x hx]
    simp [readD, readA, readB, hd, ha]
  · refine (dec_3 s (lay9 115) o f g x rfl hx w).mono ?_
    rintro e w' ⟨rfl, h⟩
    refine ⟨?_, h⟩
    rw [decM_3 x hx]
    simp [readD, readA, readB, ha, hb]
  · refine (dec_4 s (lay9 66) o f g x rfl hx w).mono ?_
    rintro e w' ⟨rfl, h⟩
    refine ⟨?_, h⟩
    rw [decM_4 x hx]
    simp [readD, readA, readB, ha, hb]
  · refine (dec_5 s (lay9 85) o f g x rfl hx w).mono ?_
    rintro e w' ⟨rfl, h⟩
    refine ⟨?_, h⟩
    rw [decM_5 x hx]
    simp [readD, readA, readB, hd]
  · refine (dec_6 s (lay9 74) o f g x rfl hx w).mono ?_
    rintro e w' ⟨rfl, h⟩
    refine ⟨?_, h⟩
    rw [decM_6 x hx]
    simp [readD, readA, readB, hd]
  · refine (dec_7 s (lay9 67) o f g x rfl hx w).mono ?_
    rintro e w' ⟨rfl, h⟩
    refine ⟨?_, h⟩
    rw [decM_7 x hx]
    simp [readD, readA, readB, hd, ha]
  · refine (dec_8 s (lay9 87) o f g x rfl hx w).mono ?_
    rintro e w' ⟨rfl, h⟩
    refine ⟨?_, h⟩
    rw [decM_8 x]
    simp [readD, readA, readB]
end Go.Proofs.Ytbdfaepljgajbaa
