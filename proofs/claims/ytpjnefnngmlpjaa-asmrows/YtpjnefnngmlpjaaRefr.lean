/-
  What a word would be as an instruction of a name, by the document: the contract of the function that tells it.
-/
import Derived.Test.YtpjnefnngmlpjaaRefp
namespace Go.Proofs.Ytpjnefnngmlpjaa
open Go.RowKit

theorem ws12 {q : Int} (h0 : 0 ≤ q) (h1 : q < 4096) : wrap32 (sextV q 12) = sx 2048 4096 q := by
  have e : sextV q 12 = wrap32 (q * 1048576 % 4294967296) / 1048576 % 4294967296 := rfl
  rw [e]; unfold wrap32 sx; split <;> omega
theorem ws13 {q : Int} (h0 : 0 ≤ q) (h1 : q < 8192) : wrap32 (sextV q 13) = sx 4096 8192 q := by
  have e : sextV q 13 = wrap32 (q * 524288 % 4294967296) / 524288 % 4294967296 := rfl
  rw [e]; unfold wrap32 sx; split <;> omega
theorem ws21 {q : Int} (h0 : 0 ≤ q) (h1 : q < 2097152) : wrap32 (sextV q 21) = sx 1048576 2097152 q := by
  have e : sextV q 21 = wrap32 (q * 2048 % 4294967296) / 2048 % 4294967296 := rfl
  rw [e]; unfold wrap32 sx; split <;> omega

theorem rSextX (x n : Int) (hx : U32 x) (c1 : 1 ≤ n) (c2 : n ≤ 32) (w : World) :
    Calls Try.prog 71 #[.int .u32 x, .int .i64 n] w fun e w' => e = .returned (.int .u32 (sextV x n)) ∧ w' = w.alloc (.cells #[.int .u32 (sextV x n), .int .i64 0] 55) := by
  have e : sextV x n = wrap32 (x * 2 ^ (32 - n).toNat % 4294967296) / 2 ^ (32 - n).toNat % 4294967296 := by unfold sextV; rw [if_neg (by omega)]
  rw [e]
  have Hs : Hid (U32 (x * 2 ^ (32 - n).toNat % 4294967296)) := ⟨Int.emod_nonneg _ (by omega), Int.emod_lt_of_pos _ (by omega)⟩
  clear e
  obtain ⟨h0, h1⟩ := hx
  have hfld := fld0
  go_enter Try.func71, Try.ntmps71
  go_wp2_with (first | (go_at_call 31; refine (rsigned _ Hs _).mono ?_; rintro e w' ⟨rfl, rfl⟩) | (go_at_call 32; refine (rlow _ _).mono ?_; rintro e w' ⟨rfl, rfl⟩))
  go_ret
  exact ⟨rfl, rfl⟩

theorem ins_of {s : ByteArray} {d a b m d' a' b' m' : Int} (h1 : d = d') (h2 : a = a') (h3 : b = b') (h4 : m = m') : Ending.returned (.agg #[.string s, .int .i64 d, .int .i64 a, .int .i64 b, .int .i32 m]) = .returned (.agg #[.string s, .int .i64 d', .int .i64 a', .int .i64 b', .int .i32 m']) := by rw [h1, h2, h3, h4]

theorem or_s {u d : Int} (hu : 0 ≤ u ∧ u < 128) (hd : 0 ≤ d ∧ d < 32) :
    bits .or .u32 (u * 32) (d) = u * 32 + d := by
  have e0 := or_add (x := u * 32) (y := d) 5 (by omega) ⟨by omega, by omega⟩ (by omega) (by omega) (by omega)
  rw [e0]
theorem or_b {t u v z : Int} (ht : 0 ≤ t ∧ t < 2) (hu : 0 ≤ u ∧ u < 2) (hv : 0 ≤ v ∧ v < 64) (hz : 0 ≤ z ∧ z < 16) :
    bits .or .u32 (bits .or .u32 (bits .or .u32 (t * 4096) (u * 2048)) (v * 32)) (z * 2) = t * 4096 + u * 2048 + v * 32 + z * 2 := by
  have e0 := or_add (x := t * 4096) (y := u * 2048) 12 (by omega) ⟨by omega, by omega⟩ (by omega) (by omega) (by omega)
  have e1 := or_add (x := t * 4096 + u * 2048) (y := v * 32) 11 (by omega) ⟨by omega, by omega⟩ (by omega) (by omega) (by omega)
  have e2 := or_add (x := t * 4096 + u * 2048 + v * 32) (y := z * 2) 5 (by omega) ⟨by omega, by omega⟩ (by omega) (by omega) (by omega)
  rw [e0, e1, e2]
theorem or_j {t z u v : Int} (ht : 0 ≤ t ∧ t < 2) (hz : 0 ≤ z ∧ z < 256) (hu : 0 ≤ u ∧ u < 2) (hv : 0 ≤ v ∧ v < 1024) :
    bits .or .u32 (bits .or .u32 (bits .or .u32 (t * 1048576) (z * 4096)) (u * 2048)) (v * 2) = t * 1048576 + z * 4096 + u * 2048 + v * 2 := by
  have e0 := or_add (x := t * 1048576) (y := z * 4096) 20 (by omega) ⟨by omega, by omega⟩ (by omega) (by omega) (by omega)
  have e1 := or_add (x := t * 1048576 + z * 4096) (y := u * 2048) 12 (by omega) ⟨by omega, by omega⟩ (by omega) (by omega) (by omega)
  have e2 := or_add (x := t * 1048576 + z * 4096 + u * 2048) (y := v * 2) 11 (by omega) ⟨by omega, by omega⟩ (by omega) (by omega) (by omega)
  rw [e0, e1, e2]

set_option maxRecDepth 100000 in
set_option maxHeartbeats 2000000 in
theorem read_82 (s : ByteArray) (x o g f : Int) (hx : U32 x) (hp : formV s.toList = ⟨82, o, g, f⟩) (w : World) :
    Calls Try.prog 86 #[.string s, .int .u32 x] w fun e w' => e = .returned (.agg #[.string s, .int .i64 (readD 82 x), .int .i64 (readA 82 x), .int .i64 (readB 82 x), .int .i32 (readM 82 x)]) ∧ Below w.heap.size w w' := by
  have Hx : Hid (U32 x) := hx
  have HF : Hid (∀ w, Calls Try.prog 70 #[.string s] w fun e w' => e = .returned (.agg #[.int .u8 82, .int .u32 o, .int .u32 g, .int .u32 f]) ∧ w' = w.alloc (.cells #[.int .u8 82, .int .u32 o, .int .u32 g, .int .u32 f] 132)) := rform' s 82 o g f hp
  obtain ⟨x0, x1⟩ := hx
  have hd : bitsV x 7 5 = x / 2 ^ 7 % 2 ^ 5 := bitsV_int Hx 7 5 (by omega) (by omega) (by omega)
  have bd := bd_mod (x / 2 ^ 7) (2 ^ 5) (by omega)
  generalize hxd : x / 2 ^ 7 % 2 ^ 5 = d at hd bd
  have Xd : Hid (x / 128 % 32 = d) := hxd
  obtain ⟨cd, Cd⟩ := bd
  clear hxd
  have ha : bitsV x 15 5 = x / 2 ^ 15 % 2 ^ 5 := bitsV_int Hx 15 5 (by omega) (by omega) (by omega)
  have ba := bd_mod (x / 2 ^ 15) (2 ^ 5) (by omega)
  generalize hxa : x / 2 ^ 15 % 2 ^ 5 = a at ha ba
  have Xa : Hid (x / 32768 % 32 = a) := hxa
  obtain ⟨ca, Ca⟩ := ba
  clear hxa
  have hb : bitsV x 20 5 = x / 2 ^ 20 % 2 ^ 5 := bitsV_int Hx 20 5 (by omega) (by omega) (by omega)
  have bb := bd_mod (x / 2 ^ 20) (2 ^ 5) (by omega)
  generalize hxb : x / 2 ^ 20 % 2 ^ 5 = b at hb bb
  have Xb : Hid (x / 1048576 % 32 = b) := hxb
  obtain ⟨cb, Cb⟩ := bb
  clear hxb
  clear hp
  go_enter Try.func86, Try.ntmps86
  go_wp2_with (first | (go_at_call 70; refine (HF _).mono ?_; rintro e w' ⟨rfl, rfl⟩) | (go_at_call 56; refine (rBits _ _ _ Hx _).mono ?_; rintro e w' ⟨rfl, rfl⟩) | (go_at_call 71; refine (rSextX _ _ HQ (by omega) (by omega) _).mono ?_; rintro e w' ⟨rfl, rfl⟩))
  apply bodyPost_ret (hd := rfl)
  focus (simp [results, Try.results86, go_sem]; rfl)
  refine ⟨ins_of ?_ ?_ ?_ ?_, ?_⟩
  · exact Xd.out.symm
  · exact Xa.out.symm
  · exact Xb.out.symm
  · rfl
  · (repeat' (first | exact Below.refl _ _ | refine Below.alloc ?_ ?_ _ | refine Below.setCell ?_ ?_ _)) <;> (first | (simp; done) | (simp; omega))

set_option maxRecDepth 100000 in
set_option maxHeartbeats 2000000 in
theorem read_73 (s : ByteArray) (x o g f : Int) (hx : U32 x) (hp : formV s.toList = ⟨73, o, g, f⟩) (w : World) :
    Calls Try.prog 86 #[.string s, .int .u32 x] w fun e w' => e = .returned (.agg #[.string s, .int .i64 (readD 73 x), .int .i64 (readA 73 x), .int .i64 (readB 73 x), .int .i32 (readM 73 x)]) ∧ Below w.heap.size w w' := by
  have Hx : Hid (U32 x) := hx
  have HF : Hid (∀ w, Calls Try.prog 70 #[.string s] w fun e w' => e = .returned (.agg #[.int .u8 73, .int .u32 o, .int .u32 g, .int .u32 f]) ∧ w' = w.alloc (.cells #[.int .u8 73, .int .u32 o, .int .u32 g, .int .u32 f] 132)) := rform' s 73 o g f hp
  obtain ⟨x0, x1⟩ := hx
  have hd : bitsV x 7 5 = x / 2 ^ 7 % 2 ^ 5 := bitsV_int Hx 7 5 (by omega) (by omega) (by omega)
  have bd := bd_mod (x / 2 ^ 7) (2 ^ 5) (by omega)
  generalize hxd : x / 2 ^ 7 % 2 ^ 5 = d at hd bd
  have Xd : Hid (x / 128 % 32 = d) := hxd
  obtain ⟨cd, Cd⟩ := bd
  clear hxd
  have ha : bitsV x 15 5 = x / 2 ^ 15 % 2 ^ 5 := bitsV_int Hx 15 5 (by omega) (by omega) (by omega)
  have ba := bd_mod (x / 2 ^ 15) (2 ^ 5) (by omega)
  generalize hxa : x / 2 ^ 15 % 2 ^ 5 = a at ha ba
  have Xa : Hid (x / 32768 % 32 = a) := hxa
  obtain ⟨ca, Ca⟩ := ba
  clear hxa
  have hb : bitsV x 20 5 = x / 2 ^ 20 % 2 ^ 5 := bitsV_int Hx 20 5 (by omega) (by omega) (by omega)
  have bb := bd_mod (x / 2 ^ 20) (2 ^ 5) (by omega)
  generalize hxb : x / 2 ^ 20 % 2 ^ 5 = b at hb bb
  have Xb : Hid (x / 1048576 % 32 = b) := hxb
  obtain ⟨cb, Cb⟩ := bb
  clear hxb
  have HQ0 : 0 ≤ x / 1048576 ∧ x / 1048576 < 4096 := by omega
  generalize hq : x / 1048576 = q at *
  have XQ : Hid (x / 1048576 = q) := hq
  have HQ : Hid (U32 q) := ⟨by omega, by omega⟩
  have HN := ws12 (q := q) (by omega) (by omega)
  have HS := (sextV_u32 q 12)
  generalize hS : sextV q 12 = S at HN HS
  generalize hN : sx 2048 4096 q = N at HN
  have XN : Hid (sx 2048 4096 q = N) := hN
  obtain ⟨S0, S1⟩ := HS
  clear hN
  clear hp
  go_enter Try.func86, Try.ntmps86
  go_wp2_with (first | (go_at_call 70; refine (HF _).mono ?_; rintro e w' ⟨rfl, rfl⟩) | (go_at_call 56; refine (rBits _ _ _ Hx _).mono ?_; rintro e w' ⟨rfl, rfl⟩) | (go_at_call 71; refine (rSextX _ _ HQ (by omega) (by omega) _).mono ?_; rintro e w' ⟨rfl, rfl⟩))
  apply bodyPost_ret (hd := rfl)
  focus (simp [results, Try.results86, go_sem]; rfl)
  refine ⟨ins_of ?_ ?_ ?_ ?_, ?_⟩
  · exact Xd.out.symm
  · exact Xa.out.symm
  · rfl
  · show N = sx 2048 4096 (x / 1048576)
    rw [XQ.out]; exact XN.out.symm
  · (repeat' (first | exact Below.refl _ _ | refine Below.alloc ?_ ?_ _ | refine Below.setCell ?_ ?_ _)) <;> (first | (simp; done) | (simp; omega))

set_option maxRecDepth 100000 in
set_option maxHeartbeats 2000000 in
theorem read_67 (s : ByteArray) (x o g f : Int) (hx : U32 x) (hp : formV s.toList = ⟨67, o, g, f⟩) (w : World) :
    Calls Try.prog 86 #[.string s, .int .u32 x] w fun e w' => e = .returned (.agg #[.string s, .int .i64 (readD 67 x), .int .i64 (readA 67 x), .int .i64 (readB 67 x), .int .i32 (readM 67 x)]) ∧ Below w.heap.size w w' := by
  have Hx : Hid (U32 x) := hx
  have HF : Hid (∀ w, Calls Try.prog 70 #[.string s] w fun e w' => e = .returned (.agg #[.int .u8 67, .int .u32 o, .int .u32 g, .int .u32 f]) ∧ w' = w.alloc (.cells #[.int .u8 67, .int .u32 o, .int .u32 g, .int .u32 f] 132)) := rform' s 67 o g f hp
  obtain ⟨x0, x1⟩ := hx
  have hd : bitsV x 7 5 = x / 2 ^ 7 % 2 ^ 5 := bitsV_int Hx 7 5 (by omega) (by omega) (by omega)
  have bd := bd_mod (x / 2 ^ 7) (2 ^ 5) (by omega)
  generalize hxd : x / 2 ^ 7 % 2 ^ 5 = d at hd bd
  have Xd : Hid (x / 128 % 32 = d) := hxd
  obtain ⟨cd, Cd⟩ := bd
  clear hxd
  have ha : bitsV x 15 5 = x / 2 ^ 15 % 2 ^ 5 := bitsV_int Hx 15 5 (by omega) (by omega) (by omega)
  have ba := bd_mod (x / 2 ^ 15) (2 ^ 5) (by omega)
  generalize hxa : x / 2 ^ 15 % 2 ^ 5 = a at ha ba
  have Xa : Hid (x / 32768 % 32 = a) := hxa
  obtain ⟨ca, Ca⟩ := ba
  clear hxa
  have hb : bitsV x 20 5 = x / 2 ^ 20 % 2 ^ 5 := bitsV_int Hx 20 5 (by omega) (by omega) (by omega)
  have bb := bd_mod (x / 2 ^ 20) (2 ^ 5) (by omega)
  generalize hxb : x / 2 ^ 20 % 2 ^ 5 = b at hb bb
  have Xb : Hid (x / 1048576 % 32 = b) := hxb
  obtain ⟨cb, Cb⟩ := bb
  clear hxb
  clear hp
  go_enter Try.func86, Try.ntmps86
  go_wp2_with (first | (go_at_call 70; refine (HF _).mono ?_; rintro e w' ⟨rfl, rfl⟩) | (go_at_call 56; refine (rBits _ _ _ Hx _).mono ?_; rintro e w' ⟨rfl, rfl⟩) | (go_at_call 71; refine (rSextX _ _ HQ (by omega) (by omega) _).mono ?_; rintro e w' ⟨rfl, rfl⟩))
  apply bodyPost_ret (hd := rfl)
  focus (simp [results, Try.results86, go_sem]; rfl)
  refine ⟨ins_of ?_ ?_ ?_ ?_, ?_⟩
  · exact Xd.out.symm
  · exact Xa.out.symm
  · rfl
  · rfl
  · (repeat' (first | exact Below.refl _ _ | refine Below.alloc ?_ ?_ _ | refine Below.setCell ?_ ?_ _)) <;> (first | (simp; done) | (simp; omega))

set_option maxRecDepth 100000 in
set_option maxHeartbeats 2000000 in
theorem read_83 (s : ByteArray) (x o g f : Int) (hx : U32 x) (hp : formV s.toList = ⟨83, o, g, f⟩) (w : World) :
    Calls Try.prog 86 #[.string s, .int .u32 x] w fun e w' => e = .returned (.agg #[.string s, .int .i64 (readD 83 x), .int .i64 (readA 83 x), .int .i64 (readB 83 x), .int .i32 (readM 83 x)]) ∧ Below w.heap.size w w' := by
  have Hx : Hid (U32 x) := hx
  have HF : Hid (∀ w, Calls Try.prog 70 #[.string s] w fun e w' => e = .returned (.agg #[.int .u8 83, .int .u32 o, .int .u32 g, .int .u32 f]) ∧ w' = w.alloc (.cells #[.int .u8 83, .int .u32 o, .int .u32 g, .int .u32 f] 132)) := rform' s 83 o g f hp
  obtain ⟨x0, x1⟩ := hx
  have hd : bitsV x 7 5 = x / 2 ^ 7 % 2 ^ 5 := bitsV_int Hx 7 5 (by omega) (by omega) (by omega)
  have bd := bd_mod (x / 2 ^ 7) (2 ^ 5) (by omega)
  generalize hxd : x / 2 ^ 7 % 2 ^ 5 = d at hd bd
  have Xd : Hid (x / 128 % 32 = d) := hxd
  obtain ⟨cd, Cd⟩ := bd
  clear hxd
  have ha : bitsV x 15 5 = x / 2 ^ 15 % 2 ^ 5 := bitsV_int Hx 15 5 (by omega) (by omega) (by omega)
  have ba := bd_mod (x / 2 ^ 15) (2 ^ 5) (by omega)
  generalize hxa : x / 2 ^ 15 % 2 ^ 5 = a at ha ba
  have Xa : Hid (x / 32768 % 32 = a) := hxa
  obtain ⟨ca, Ca⟩ := ba
  clear hxa
  have hb : bitsV x 20 5 = x / 2 ^ 20 % 2 ^ 5 := bitsV_int Hx 20 5 (by omega) (by omega) (by omega)
  have bb := bd_mod (x / 2 ^ 20) (2 ^ 5) (by omega)
  generalize hxb : x / 2 ^ 20 % 2 ^ 5 = b at hb bb
  have Xb : Hid (x / 1048576 % 32 = b) := hxb
  obtain ⟨cb, Cb⟩ := bb
  clear hxb
  clear hp
  go_enter Try.func86, Try.ntmps86
  go_wp2_with (first | (go_at_call 70; refine (HF _).mono ?_; rintro e w' ⟨rfl, rfl⟩) | (go_at_call 56; refine (rBits _ _ _ Hx _).mono ?_; rintro e w' ⟨rfl, rfl⟩) | (go_at_call 71; refine (rSextX _ _ HQ (by omega) (by omega) _).mono ?_; rintro e w' ⟨rfl, rfl⟩))
  apply bodyPost_ret (hd := rfl)
  focus (simp [results, Try.results86, go_sem]; rfl)
  refine ⟨ins_of ?_ ?_ ?_ ?_, ?_⟩
  · exact Xd.out.symm
  · exact Xa.out.symm
  · rfl
  · exact Xb.out.symm
  · (repeat' (first | exact Below.refl _ _ | refine Below.alloc ?_ ?_ _ | refine Below.setCell ?_ ?_ _)) <;> (first | (simp; done) | (simp; omega))

set_option maxRecDepth 100000 in
set_option maxHeartbeats 2000000 in
theorem read_115 (s : ByteArray) (x o g f : Int) (hx : U32 x) (hp : formV s.toList = ⟨115, o, g, f⟩) (w : World) :
    Calls Try.prog 86 #[.string s, .int .u32 x] w fun e w' => e = .returned (.agg #[.string s, .int .i64 (readD 115 x), .int .i64 (readA 115 x), .int .i64 (readB 115 x), .int .i32 (readM 115 x)]) ∧ Below w.heap.size w w' := by
  have Hx : Hid (U32 x) := hx
  have HF : Hid (∀ w, Calls Try.prog 70 #[.string s] w fun e w' => e = .returned (.agg #[.int .u8 115, .int .u32 o, .int .u32 g, .int .u32 f]) ∧ w' = w.alloc (.cells #[.int .u8 115, .int .u32 o, .int .u32 g, .int .u32 f] 132)) := rform' s 115 o g f hp
  obtain ⟨x0, x1⟩ := hx
  have hd : bitsV x 7 5 = x / 2 ^ 7 % 2 ^ 5 := bitsV_int Hx 7 5 (by omega) (by omega) (by omega)
  have bd := bd_mod (x / 2 ^ 7) (2 ^ 5) (by omega)
  generalize hxd : x / 2 ^ 7 % 2 ^ 5 = d at hd bd
  have Xd : Hid (x / 128 % 32 = d) := hxd
  obtain ⟨cd, Cd⟩ := bd
  clear hxd
  have ha : bitsV x 15 5 = x / 2 ^ 15 % 2 ^ 5 := bitsV_int Hx 15 5 (by omega) (by omega) (by omega)
  have ba := bd_mod (x / 2 ^ 15) (2 ^ 5) (by omega)
  generalize hxa : x / 2 ^ 15 % 2 ^ 5 = a at ha ba
  have Xa : Hid (x / 32768 % 32 = a) := hxa
  obtain ⟨ca, Ca⟩ := ba
  clear hxa
  have hb : bitsV x 20 5 = x / 2 ^ 20 % 2 ^ 5 := bitsV_int Hx 20 5 (by omega) (by omega) (by omega)
  have bb := bd_mod (x / 2 ^ 20) (2 ^ 5) (by omega)
  generalize hxb : x / 2 ^ 20 % 2 ^ 5 = b at hb bb
  have Xb : Hid (x / 1048576 % 32 = b) := hxb
  obtain ⟨cb, Cb⟩ := bb
  clear hxb
  have hu : bitsV x 25 7 = x / 2 ^ 25 % 2 ^ 7 := bitsV_int Hx 25 7 (by omega) (by omega) (by omega)
  have bu := bd_mod (x / 2 ^ 25) (2 ^ 7) (by omega)
  generalize hxu : x / 2 ^ 25 % 2 ^ 7 = u at hu bu
  have Xu : Hid (x / 33554432 % 128 = u) := hxu
  obtain ⟨cu, Cu⟩ := bu
  clear hxu
  have ho := or_s (u := u) (d := d) ⟨cu, Cu⟩ ⟨cd, Cd⟩
  generalize hq : u * 32 + d = q at ho
  have XQ : Hid (u * 32 + d = q) := hq
  have q0 : 0 ≤ q := by omega
  have q1 : q < 4096 := by omega
  clear hq
  have HQ : Hid (U32 q) := ⟨by omega, by omega⟩
  have HN := ws12 (q := q) (by omega) (by omega)
  have HS := (sextV_u32 q 12)
  generalize hS : sextV q 12 = S at HN HS
  generalize hN : sx 2048 4096 q = N at HN
  have XN : Hid (sx 2048 4096 q = N) := hN
  obtain ⟨S0, S1⟩ := HS
  clear hN
  clear hp
  go_enter Try.func86, Try.ntmps86
  go_wp2_with (first | (go_at_call 70; refine (HF _).mono ?_; rintro e w' ⟨rfl, rfl⟩) | (go_at_call 56; refine (rBits _ _ _ Hx _).mono ?_; rintro e w' ⟨rfl, rfl⟩) | (go_at_call 71; refine (rSextX _ _ HQ (by omega) (by omega) _).mono ?_; rintro e w' ⟨rfl, rfl⟩))
  apply bodyPost_ret (hd := rfl)
  focus (simp [results, Try.results86, go_sem]; rfl)
  refine ⟨ins_of ?_ ?_ ?_ ?_, ?_⟩
  · rfl
  · exact Xa.out.symm
  · exact Xb.out.symm
  · show N = sx 2048 4096 (x / 33554432 * 32 + x / 128 % 32)
    have e : x / 33554432 = u := by have := Xu.out; omega
    rw [e, Xd.out, XQ.out]; exact XN.out.symm
  · (repeat' (first | exact Below.refl _ _ | refine Below.alloc ?_ ?_ _ | refine Below.setCell ?_ ?_ _)) <;> (first | (simp; done) | (simp; omega))

set_option maxRecDepth 100000 in
set_option maxHeartbeats 2000000 in
theorem read_66 (s : ByteArray) (x o g f : Int) (hx : U32 x) (hp : formV s.toList = ⟨66, o, g, f⟩) (w : World) :
    Calls Try.prog 86 #[.string s, .int .u32 x] w fun e w' => e = .returned (.agg #[.string s, .int .i64 (readD 66 x), .int .i64 (readA 66 x), .int .i64 (readB 66 x), .int .i32 (readM 66 x)]) ∧ Below w.heap.size w w' := by
  have Hx : Hid (U32 x) := hx
  have HF : Hid (∀ w, Calls Try.prog 70 #[.string s] w fun e w' => e = .returned (.agg #[.int .u8 66, .int .u32 o, .int .u32 g, .int .u32 f]) ∧ w' = w.alloc (.cells #[.int .u8 66, .int .u32 o, .int .u32 g, .int .u32 f] 132)) := rform' s 66 o g f hp
  obtain ⟨x0, x1⟩ := hx
  have hd : bitsV x 7 5 = x / 2 ^ 7 % 2 ^ 5 := bitsV_int Hx 7 5 (by omega) (by omega) (by omega)
  have bd := bd_mod (x / 2 ^ 7) (2 ^ 5) (by omega)
  generalize hxd : x / 2 ^ 7 % 2 ^ 5 = d at hd bd
  have Xd : Hid (x / 128 % 32 = d) := hxd
  obtain ⟨cd, Cd⟩ := bd
  clear hxd
  have ha : bitsV x 15 5 = x / 2 ^ 15 % 2 ^ 5 := bitsV_int Hx 15 5 (by omega) (by omega) (by omega)
  have ba := bd_mod (x / 2 ^ 15) (2 ^ 5) (by omega)
  generalize hxa : x / 2 ^ 15 % 2 ^ 5 = a at ha ba
  have Xa : Hid (x / 32768 % 32 = a) := hxa
  obtain ⟨ca, Ca⟩ := ba
  clear hxa
  have hb : bitsV x 20 5 = x / 2 ^ 20 % 2 ^ 5 := bitsV_int Hx 20 5 (by omega) (by omega) (by omega)
  have bb := bd_mod (x / 2 ^ 20) (2 ^ 5) (by omega)
  generalize hxb : x / 2 ^ 20 % 2 ^ 5 = b at hb bb
  have Xb : Hid (x / 1048576 % 32 = b) := hxb
  obtain ⟨cb, Cb⟩ := bb
  clear hxb
  have ht : bitsV x 31 1 = x / 2 ^ 31 % 2 ^ 1 := bitsV_int Hx 31 1 (by omega) (by omega) (by omega)
  have bt := bd_mod (x / 2 ^ 31) (2 ^ 1) (by omega)
  generalize hxt : x / 2 ^ 31 % 2 ^ 1 = t at ht bt
  have Xt : Hid (x / 2147483648 % 2 = t) := hxt
  obtain ⟨ct, Ct⟩ := bt
  clear hxt
  have hu : bitsV x 7 1 = x / 2 ^ 7 % 2 ^ 1 := bitsV_int Hx 7 1 (by omega) (by omega) (by omega)
  have bu := bd_mod (x / 2 ^ 7) (2 ^ 1) (by omega)
  generalize hxu : x / 2 ^ 7 % 2 ^ 1 = u at hu bu
  have Xu : Hid (x / 128 % 2 = u) := hxu
  obtain ⟨cu, Cu⟩ := bu
  clear hxu
  have hv : bitsV x 25 6 = x / 2 ^ 25 % 2 ^ 6 := bitsV_int Hx 25 6 (by omega) (by omega) (by omega)
  have bv := bd_mod (x / 2 ^ 25) (2 ^ 6) (by omega)
  generalize hxv : x / 2 ^ 25 % 2 ^ 6 = v at hv bv
  have Xv : Hid (x / 33554432 % 64 = v) := hxv
  obtain ⟨cv, Cv⟩ := bv
  clear hxv
  have hz : bitsV x 8 4 = x / 2 ^ 8 % 2 ^ 4 := bitsV_int Hx 8 4 (by omega) (by omega) (by omega)
  have bz := bd_mod (x / 2 ^ 8) (2 ^ 4) (by omega)
  generalize hxz : x / 2 ^ 8 % 2 ^ 4 = z at hz bz
  have Xz : Hid (x / 256 % 16 = z) := hxz
  obtain ⟨cz, Cz⟩ := bz
  clear hxz
  have ho := or_b (t := t) (u := u) (v := v) (z := z) ⟨ct, Ct⟩ ⟨cu, Cu⟩ ⟨cv, Cv⟩ ⟨cz, Cz⟩
  generalize hq : t * 4096 + u * 2048 + v * 32 + z * 2 = q at ho
  have XQ : Hid (t * 4096 + u * 2048 + v * 32 + z * 2 = q) := hq
  have q0 : 0 ≤ q := by omega
  have q1 : q < 8192 := by omega
  clear hq
  have HQ : Hid (U32 q) := ⟨by omega, by omega⟩
  have HN := ws13 (q := q) (by omega) (by omega)
  have HS := (sextV_u32 q 13)
  generalize hS : sextV q 13 = S at HN HS
  generalize hN : sx 4096 8192 q = N at HN
  have XN : Hid (sx 4096 8192 q = N) := hN
  obtain ⟨S0, S1⟩ := HS
  clear hN
  clear hp
  go_enter Try.func86, Try.ntmps86
  go_wp2_with (first | (go_at_call 70; refine (HF _).mono ?_; rintro e w' ⟨rfl, rfl⟩) | (go_at_call 56; refine (rBits _ _ _ Hx _).mono ?_; rintro e w' ⟨rfl, rfl⟩) | (go_at_call 71; refine (rSextX _ _ HQ (by omega) (by omega) _).mono ?_; rintro e w' ⟨rfl, rfl⟩))
  apply bodyPost_ret (hd := rfl)
  focus (simp [results, Try.results86, go_sem]; rfl)
  refine ⟨ins_of ?_ ?_ ?_ ?_, ?_⟩
  · rfl
  · exact Xa.out.symm
  · exact Xb.out.symm
  · show N = sx 4096 8192 (x / 2147483648 * 4096 + x / 128 % 2 * 2048 + x / 33554432 % 64 * 32 + x / 256 % 16 * 2)
    have e : x / 2147483648 = t := by have := Xt.out; omega
    rw [e, Xu.out, Xv.out, Xz.out, XQ.out]; exact XN.out.symm
  · (repeat' (first | exact Below.refl _ _ | refine Below.alloc ?_ ?_ _ | refine Below.setCell ?_ ?_ _)) <;> (first | (simp; done) | (simp; omega))

set_option maxRecDepth 100000 in
set_option maxHeartbeats 2000000 in
theorem read_85 (s : ByteArray) (x o g f : Int) (hx : U32 x) (hp : formV s.toList = ⟨85, o, g, f⟩) (w : World) :
    Calls Try.prog 86 #[.string s, .int .u32 x] w fun e w' => e = .returned (.agg #[.string s, .int .i64 (readD 85 x), .int .i64 (readA 85 x), .int .i64 (readB 85 x), .int .i32 (readM 85 x)]) ∧ Below w.heap.size w w' := by
  have Hx : Hid (U32 x) := hx
  have HF : Hid (∀ w, Calls Try.prog 70 #[.string s] w fun e w' => e = .returned (.agg #[.int .u8 85, .int .u32 o, .int .u32 g, .int .u32 f]) ∧ w' = w.alloc (.cells #[.int .u8 85, .int .u32 o, .int .u32 g, .int .u32 f] 132)) := rform' s 85 o g f hp
  obtain ⟨x0, x1⟩ := hx
  have hd : bitsV x 7 5 = x / 2 ^ 7 % 2 ^ 5 := bitsV_int Hx 7 5 (by omega) (by omega) (by omega)
  have bd := bd_mod (x / 2 ^ 7) (2 ^ 5) (by omega)
  generalize hxd : x / 2 ^ 7 % 2 ^ 5 = d at hd bd
  have Xd : Hid (x / 128 % 32 = d) := hxd
  obtain ⟨cd, Cd⟩ := bd
  clear hxd
  have ha : bitsV x 15 5 = x / 2 ^ 15 % 2 ^ 5 := bitsV_int Hx 15 5 (by omega) (by omega) (by omega)
  have ba := bd_mod (x / 2 ^ 15) (2 ^ 5) (by omega)
  generalize hxa : x / 2 ^ 15 % 2 ^ 5 = a at ha ba
  have Xa : Hid (x / 32768 % 32 = a) := hxa
  obtain ⟨ca, Ca⟩ := ba
  clear hxa
  have hb : bitsV x 20 5 = x / 2 ^ 20 % 2 ^ 5 := bitsV_int Hx 20 5 (by omega) (by omega) (by omega)
  have bb := bd_mod (x / 2 ^ 20) (2 ^ 5) (by omega)
  generalize hxb : x / 2 ^ 20 % 2 ^ 5 = b at hb bb
  have Xb : Hid (x / 1048576 % 32 = b) := hxb
  obtain ⟨cb, Cb⟩ := bb
  clear hxb
  clear hp
  go_enter Try.func86, Try.ntmps86
  go_wp2_with (first | (go_at_call 70; refine (HF _).mono ?_; rintro e w' ⟨rfl, rfl⟩) | (go_at_call 56; refine (rBits _ _ _ Hx _).mono ?_; rintro e w' ⟨rfl, rfl⟩) | (go_at_call 71; refine (rSextX _ _ HQ (by omega) (by omega) _).mono ?_; rintro e w' ⟨rfl, rfl⟩))
  apply bodyPost_ret (hd := rfl)
  focus (simp [results, Try.results86, go_sem]; rfl)
  refine ⟨ins_of ?_ ?_ ?_ ?_, ?_⟩
  · exact Xd.out.symm
  · rfl
  · rfl
  · rfl
  · (repeat' (first | exact Below.refl _ _ | refine Below.alloc ?_ ?_ _ | refine Below.setCell ?_ ?_ _)) <;> (first | (simp; done) | (simp; omega))

set_option maxRecDepth 100000 in
set_option maxHeartbeats 2000000 in
theorem read_74 (s : ByteArray) (x o g f : Int) (hx : U32 x) (hp : formV s.toList = ⟨74, o, g, f⟩) (w : World) :
    Calls Try.prog 86 #[.string s, .int .u32 x] w fun e w' => e = .returned (.agg #[.string s, .int .i64 (readD 74 x), .int .i64 (readA 74 x), .int .i64 (readB 74 x), .int .i32 (readM 74 x)]) ∧ Below w.heap.size w w' := by
  have Hx : Hid (U32 x) := hx
  have HF : Hid (∀ w, Calls Try.prog 70 #[.string s] w fun e w' => e = .returned (.agg #[.int .u8 74, .int .u32 o, .int .u32 g, .int .u32 f]) ∧ w' = w.alloc (.cells #[.int .u8 74, .int .u32 o, .int .u32 g, .int .u32 f] 132)) := rform' s 74 o g f hp
  obtain ⟨x0, x1⟩ := hx
  have hd : bitsV x 7 5 = x / 2 ^ 7 % 2 ^ 5 := bitsV_int Hx 7 5 (by omega) (by omega) (by omega)
  have bd := bd_mod (x / 2 ^ 7) (2 ^ 5) (by omega)
  generalize hxd : x / 2 ^ 7 % 2 ^ 5 = d at hd bd
  have Xd : Hid (x / 128 % 32 = d) := hxd
  obtain ⟨cd, Cd⟩ := bd
  clear hxd
  have ha : bitsV x 15 5 = x / 2 ^ 15 % 2 ^ 5 := bitsV_int Hx 15 5 (by omega) (by omega) (by omega)
  have ba := bd_mod (x / 2 ^ 15) (2 ^ 5) (by omega)
  generalize hxa : x / 2 ^ 15 % 2 ^ 5 = a at ha ba
  have Xa : Hid (x / 32768 % 32 = a) := hxa
  obtain ⟨ca, Ca⟩ := ba
  clear hxa
  have hb : bitsV x 20 5 = x / 2 ^ 20 % 2 ^ 5 := bitsV_int Hx 20 5 (by omega) (by omega) (by omega)
  have bb := bd_mod (x / 2 ^ 20) (2 ^ 5) (by omega)
  generalize hxb : x / 2 ^ 20 % 2 ^ 5 = b at hb bb
  have Xb : Hid (x / 1048576 % 32 = b) := hxb
  obtain ⟨cb, Cb⟩ := bb
  clear hxb
  have ht : bitsV x 31 1 = x / 2 ^ 31 % 2 ^ 1 := bitsV_int Hx 31 1 (by omega) (by omega) (by omega)
  have bt := bd_mod (x / 2 ^ 31) (2 ^ 1) (by omega)
  generalize hxt : x / 2 ^ 31 % 2 ^ 1 = t at ht bt
  have Xt : Hid (x / 2147483648 % 2 = t) := hxt
  obtain ⟨ct, Ct⟩ := bt
  clear hxt
  have hu : bitsV x 20 1 = x / 2 ^ 20 % 2 ^ 1 := bitsV_int Hx 20 1 (by omega) (by omega) (by omega)
  have bu := bd_mod (x / 2 ^ 20) (2 ^ 1) (by omega)
  generalize hxu : x / 2 ^ 20 % 2 ^ 1 = u at hu bu
  have Xu : Hid (x / 1048576 % 2 = u) := hxu
  obtain ⟨cu, Cu⟩ := bu
  clear hxu
  have hv : bitsV x 21 10 = x / 2 ^ 21 % 2 ^ 10 := bitsV_int Hx 21 10 (by omega) (by omega) (by omega)
  have bv := bd_mod (x / 2 ^ 21) (2 ^ 10) (by omega)
  generalize hxv : x / 2 ^ 21 % 2 ^ 10 = v at hv bv
  have Xv : Hid (x / 2097152 % 1024 = v) := hxv
  obtain ⟨cv, Cv⟩ := bv
  clear hxv
  have hz : bitsV x 12 8 = x / 2 ^ 12 % 2 ^ 8 := bitsV_int Hx 12 8 (by omega) (by omega) (by omega)
  have bz := bd_mod (x / 2 ^ 12) (2 ^ 8) (by omega)
  generalize hxz : x / 2 ^ 12 % 2 ^ 8 = z at hz bz
  have Xz : Hid (x / 4096 % 256 = z) := hxz
  obtain ⟨cz, Cz⟩ := bz
  clear hxz
  have ho := or_j (t := t) (z := z) (u := u) (v := v) ⟨ct, Ct⟩ ⟨cz, Cz⟩ ⟨cu, Cu⟩ ⟨cv, Cv⟩
  generalize hq : t * 1048576 + z * 4096 + u * 2048 + v * 2 = q at ho
  have XQ : Hid (t * 1048576 + z * 4096 + u * 2048 + v * 2 = q) := hq
  have q0 : 0 ≤ q := by omega
  have q1 : q < 2097152 := by omega
  clear hq
  have HQ : Hid (U32 q) := ⟨by omega, by omega⟩
  have HN := ws21 (q := q) (by omega) (by omega)
  have HS := (sextV_u32 q 21)
  generalize hS : sextV q 21 = S at HN HS
  generalize hN : sx 1048576 2097152 q = N at HN
  have XN : Hid (sx 1048576 2097152 q = N) := hN
  obtain ⟨S0, S1⟩ := HS
  clear hN
  clear hp
  go_enter Try.func86, Try.ntmps86
  go_wp2_with (first | (go_at_call 70; refine (HF _).mono ?_; rintro e w' ⟨rfl, rfl⟩) | (go_at_call 56; refine (rBits _ _ _ Hx _).mono ?_; rintro e w' ⟨rfl, rfl⟩) | (go_at_call 71; refine (rSextX _ _ HQ (by omega) (by omega) _).mono ?_; rintro e w' ⟨rfl, rfl⟩))
  apply bodyPost_ret (hd := rfl)
  focus (simp [results, Try.results86, go_sem]; rfl)
  refine ⟨ins_of ?_ ?_ ?_ ?_, ?_⟩
  · exact Xd.out.symm
  · rfl
  · rfl
  · show N = sx 1048576 2097152 (x / 2147483648 * 1048576 + x / 4096 % 256 * 4096 + x / 1048576 % 2 * 2048 + x / 2097152 % 1024 * 2)
    have e : x / 2147483648 = t := by have := Xt.out; omega
    rw [e, Xz.out, Xu.out, Xv.out, XQ.out]; exact XN.out.symm
  · (repeat' (first | exact Below.refl _ _ | refine Below.alloc ?_ ?_ _ | refine Below.setCell ?_ ?_ _)) <;> (first | (simp; done) | (simp; omega))

set_option maxRecDepth 100000 in
set_option maxHeartbeats 2000000 in
theorem read_87 (s : ByteArray) (x o g f : Int) (hx : U32 x) (hp : formV s.toList = ⟨87, o, g, f⟩) (w : World) :
    Calls Try.prog 86 #[.string s, .int .u32 x] w fun e w' => e = .returned (.agg #[.string s, .int .i64 (readD 87 x), .int .i64 (readA 87 x), .int .i64 (readB 87 x), .int .i32 (readM 87 x)]) ∧ Below w.heap.size w w' := by
  have Hx : Hid (U32 x) := hx
  have HF : Hid (∀ w, Calls Try.prog 70 #[.string s] w fun e w' => e = .returned (.agg #[.int .u8 87, .int .u32 o, .int .u32 g, .int .u32 f]) ∧ w' = w.alloc (.cells #[.int .u8 87, .int .u32 o, .int .u32 g, .int .u32 f] 132)) := rform' s 87 o g f hp
  obtain ⟨x0, x1⟩ := hx
  have hd : bitsV x 7 5 = x / 2 ^ 7 % 2 ^ 5 := bitsV_int Hx 7 5 (by omega) (by omega) (by omega)
  have bd := bd_mod (x / 2 ^ 7) (2 ^ 5) (by omega)
  generalize hxd : x / 2 ^ 7 % 2 ^ 5 = d at hd bd
  have Xd : Hid (x / 128 % 32 = d) := hxd
  obtain ⟨cd, Cd⟩ := bd
  clear hxd
  have ha : bitsV x 15 5 = x / 2 ^ 15 % 2 ^ 5 := bitsV_int Hx 15 5 (by omega) (by omega) (by omega)
  have ba := bd_mod (x / 2 ^ 15) (2 ^ 5) (by omega)
  generalize hxa : x / 2 ^ 15 % 2 ^ 5 = a at ha ba
  have Xa : Hid (x / 32768 % 32 = a) := hxa
  obtain ⟨ca, Ca⟩ := ba
  clear hxa
  have hb : bitsV x 20 5 = x / 2 ^ 20 % 2 ^ 5 := bitsV_int Hx 20 5 (by omega) (by omega) (by omega)
  have bb := bd_mod (x / 2 ^ 20) (2 ^ 5) (by omega)
  generalize hxb : x / 2 ^ 20 % 2 ^ 5 = b at hb bb
  have Xb : Hid (x / 1048576 % 32 = b) := hxb
  obtain ⟨cb, Cb⟩ := bb
  clear hxb
  clear hp
  go_enter Try.func86, Try.ntmps86
  go_wp2_with (first | (go_at_call 70; refine (HF _).mono ?_; rintro e w' ⟨rfl, rfl⟩) | (go_at_call 56; refine (rBits _ _ _ Hx _).mono ?_; rintro e w' ⟨rfl, rfl⟩) | (go_at_call 71; refine (rSextX _ _ HQ (by omega) (by omega) _).mono ?_; rintro e w' ⟨rfl, rfl⟩))
  apply bodyPost_ret (hd := rfl)
  focus (simp [results, Try.results86, go_sem]; rfl)
  refine ⟨ins_of ?_ ?_ ?_ ?_, ?_⟩
  · rfl
  · rfl
  · rfl
  · rfl
  · (repeat' (first | exact Below.refl _ _ | refine Below.alloc ?_ ?_ _ | refine Below.setCell ?_ ?_ _)) <;> (first | (simp; done) | (simp; omega))

/-- What a word would be as an instruction of a name that there is. -/
theorem rRead (s : ByteArray) (x : Int) (hx : U32 x) (hk : (formV s.toList).k ≠ 0) (w : World) :
    Calls Try.prog 86 #[.string s, .int .u32 x] w fun e w' => e = .returned (.agg #[.string s, .int .i64 (readD (formV s.toList).k x), .int .i64 (readA (formV s.toList).k x), .int .i64 (readB (formV s.toList).k x), .int .i32 (readM (formV s.toList).k x)]) ∧ Below w.heap.size w w' := by
  have h := kinds s.toList
  cases hp : formV s.toList with
  | mk k o g f =>
    rw [hp] at h hk
    simp only at h hk
    show Calls Try.prog 86 #[.string s, .int .u32 x] w fun e w' => e = .returned (.agg #[.string s, .int .i64 (readD k x), .int .i64 (readA k x), .int .i64 (readB k x), .int .i32 (readM k x)]) ∧ Below w.heap.size w w'
    rcases h with rfl | rfl | rfl | rfl | rfl | rfl | rfl | rfl | rfl | rfl
    · exact read_82 s x o g f hx hp w
    · exact read_73 s x o g f hx hp w
    · exact read_83 s x o g f hx hp w
    · exact read_115 s x o g f hx hp w
    · exact read_66 s x o g f hx hp w
    · exact read_85 s x o g f hx hp w
    · exact read_74 s x o g f hx hp w
    · exact read_67 s x o g f hx hp w
    · exact read_87 s x o g f hx hp w
    · exact absurd rfl hk

/-- The word of an instruction, or the error. -/
def putN (i : MIns) : Int := if mayV i then putV i else 0
def putE (i : MIns) : Int := if mayV i then 0 else 1
theorem rPut (s : ByteArray) (d a b m : Int) (w : World) :
    Calls Try.prog 41 #[.agg #[.string s, .int .i64 d, .int .i64 a, .int .i64 b, .int .i32 m]] w fun e w' => e = .returned (.agg #[.int .u32 (putN ⟨s.toList, d, a, b, m⟩), .int .i64 (putE ⟨s.toList, d, a, b, m⟩)]) ∧ Below w.heap.size w w' := by
  cases hm : mayV ⟨s.toList, d, a, b, m⟩ with
  | false =>
    unfold putN putE
    rw [hm]
    exact put_not s d a b m hm w
  | true =>
    unfold putN putE
    rw [hm]
    have hg : goodF (formV s.toList) := forms_good _ (may_known hm)
    cases hp : formV s.toList with
    | mk k o g f =>
      have h := kinds s.toList
      rw [hp] at h hg
      simp only at h
      rcases h with rfl | rfl | rfl | rfl | rfl | rfl | rfl | rfl | rfl | rfl
      · exact put_82 s d a b m o g f hm hp hg w
      · exact put_73 s d a b m o g f hm hp hg w
      · exact put_83 s d a b m o g f hm hp hg w
      · exact put_115 s d a b m o g f hm hp hg w
      · exact put_66 s d a b m o g f hm hp hg w
      · exact put_85 s d a b m o g f hm hp hg w
      · exact put_74 s d a b m o g f hm hp hg w
      · exact put_67 s d a b m o g f hm hp hg w
      · exact put_87 s d a b m o g f hm hp hg w
      · unfold goodF at hg
        simp at hg
end Go.Proofs.Ytpjnefnngmlpjaa
