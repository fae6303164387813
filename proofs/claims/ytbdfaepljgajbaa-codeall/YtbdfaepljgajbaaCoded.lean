/-
  What the code reads of a word by a form: the contract of the function that does it.
-/
import Derived.Test.YtbdfaepljgajbaaCodex
namespace Go.Proofs.Ytbdfaepljgajbaa
open Go.RowKit

theorem wrap_i32x (n : Int) : IntKind.i32.wrap n = wrap32 n := by rw [IntKind.wrap_i32]; unfold wrap32; omega
theorem ccutB (x lo n : Int) (hx : U32 x) (c1 : 0 ≤ lo) (c2 : lo < 32) (c3 : 1 ≤ n) (c4 : n ≤ 32 - lo) (w : World) :
    Calls Try.prog 33 #[.int .u32 x, .int .i64 lo, .int .i64 n] w fun e w' => e = .returned (.agg #[.int .u32 (bitsV x lo n), .int .i64 n]) ∧ Below w.heap.size w w' :=
  (ccut x lo n hx c1 c2 c3 c4 w).mono fun _ _ h => ⟨h.1, by rw [h.2]; exact (Below.refl _ _).alloc (Nat.le_refl _) _⟩
theorem five_at {V w : World} {B0 B : Nat} {u0 u1 u2 u3 u4 v0 v1 v2 v3 v4 : Value} (h0 : V.cell? ⟨B, 0, none⟩ = some u0) (h1 : V.cell? ⟨B, 1, none⟩ = some u1) (h2 : V.cell? ⟨B, 2, none⟩ = some u2) (h3 : V.cell? ⟨B, 3, none⟩ = some u3) (h4 : V.cell? ⟨B, 4, none⟩ = some u4) (hb : Below B0 w V) (hB0 : B0 ≤ B) :
    ∃ Y, Y = ((((V.setCell ⟨B, 0, none⟩ v0).setCell ⟨B, 1, none⟩ v1).setCell ⟨B, 2, none⟩ v2).setCell ⟨B, 3, none⟩ v3).setCell ⟨B, 4, none⟩ v4 ∧ Y.cell? ⟨B, 0, none⟩ = some v0 ∧ Y.cell? ⟨B, 1, none⟩ = some v1 ∧ Y.cell? ⟨B, 2, none⟩ = some v2 ∧ Y.cell? ⟨B, 3, none⟩ = some v3 ∧ Y.cell? ⟨B, 4, none⟩ = some v4 ∧ Below B0 w Y := by
  refine ⟨_, rfl, ?_⟩
  have hbb : Below B0 w (((((V.setCell ⟨B, 0, none⟩ v0).setCell ⟨B, 1, none⟩ v1).setCell ⟨B, 2, none⟩ v2).setCell ⟨B, 3, none⟩ v3).setCell ⟨B, 4, none⟩ v4) := ((((hb.setCell hB0 _).setCell hB0 _).setCell hB0 _).setCell hB0 _).setCell hB0 _
  refine ⟨?_, ?_, ?_, ?_, ?_, hbb⟩ <;> simp [go_sem, h0, h1, h2, h3, h4]
theorem wbits5 (x lo n : Int) (hx : U32 x) (c1 : 0 ≤ lo) (c2 : lo < 32) (c3 : 1 ≤ n) (c4 : n ≤ 5) (c5 : n ≤ 32 - lo) : 0 ≤ bitsV x lo n ∧ bitsV x lo n < 32 := by
  obtain ⟨l, rfl⟩ : ∃ l : Nat, lo = l := ⟨lo.toNat, by omega⟩
  obtain ⟨k, rfl⟩ : ∃ k : Nat, n = k := ⟨n.toNat, by omega⟩
  rw [bitsN hx l k (by omega) (by omega) (by omega)]
  have h1 : (0 : Int) < 2 ^ k := Int.pow_pos (by omega)
  have h2 := pow_le (u := k) (v := 5) (by omega)
  simp at h2
  exact ⟨Int.emod_nonneg _ (by omega), by have := Int.emod_lt_of_pos (x / 2 ^ l) h1; omega⟩

/-- What is read by a layout: the four fields. -/
def decM (la x : Int) : Int :=
  if la = 1 then wrap32 (sextV (bitsV x 20 12) 12)
  else if la = 2 then wrap32 (bitsV x 20 5)
  else if la = 3 then wrap32 (sextV (joinV [(bitsV x 25 7, 7), (bitsV x 7 5, 5)] 0) 12)
  else if la = 4 then wrap32 (sextV (joinV [(bitsV x 31 1, 1), (bitsV x 7 1, 1), (bitsV x 25 6, 6), (bitsV x 8 4, 4), (bitsV 0 0 1, 1)] 0) 13)
  else if la = 5 then wrap32 (bitsV x 12 20)
  else if la = 6 then wrap32 (sextV (joinV [(bitsV x 31 1, 1), (bitsV x 12 8, 8), (bitsV x 20 1, 1), (bitsV x 21 10, 10), (bitsV 0 0 1, 1)] 0) 21)
  else if la = 7 then wrap32 (bitsV x 20 12)
  else 0

set_option maxRecDepth 100000 in
set_option maxHeartbeats 2000000 in
theorem dec_0 (s : ByteArray) (la o f g x : Int) (hla : la = 0) (hx : U32 x) (w : World) :
    Calls Try.prog 25 #[.agg #[.string s, .int .i64 la, .int .u32 o, .int .u32 f, .int .u32 g], .int .u32 x] w fun e w' => e = .returned (.agg #[.string s, .int .i64 (bitsV x 7 5), .int .i64 (bitsV x 15 5), .int .i64 (bitsV x 20 5), .int .i32 (decM 0 x)]) ∧ Below w.heap.size w w' := by
  have hm : Try.prog.follows .mixedOrders = true := by kernel_rfl
  have CD : Hid _ := wbits_in x 7 5 hx (by omega) (by omega) (by omega) (by omega)
  have CA : Hid _ := wbits_in x 15 5 hx (by omega) (by omega) (by omega) (by omega)
  have CB : Hid _ := wbits_in x 20 5 hx (by omega) (by omega) (by omega) (by omega)
  obtain ⟨hd0, hd1⟩ := wbits5 x 7 5 hx (by omega) (by omega) (by omega) (by omega) (by omega)
  obtain ⟨ha0, ha1⟩ := wbits5 x 15 5 hx (by omega) (by omega) (by omega) (by omega) (by omega)
  obtain ⟨hb0, hb1⟩ := wbits5 x 20 5 hx (by omega) (by omega) (by omega) (by omega) (by omega)
  generalize bitsV x 7 5 = d5 at *
  generalize bitsV x 15 5 = a5 at *
  generalize bitsV x 20 5 = b5 at *
  clear hx
  subst hla
  go_enter Try.func25, Try.ntmps25
  go_wp2_with fail
  refine (CD.out _).mono ?_
  rintro e w' ⟨rfl, rfl⟩
  go_wp2_with fail
  refine (CA.out _).mono ?_
  rintro e w' ⟨rfl, rfl⟩
  go_wp2_with fail
  refine (CB.out _).mono ?_
  rintro e w' ⟨rfl, rfl⟩
  have k1 : ((w.alloc (.cells #[.string s, .int .i64 0, .int .u32 o, .int .u32 f, .int .u32 g] 51)).alloc (.cells #[.string ⟨#[]⟩, .int .i64 0, .int .i64 0, .int .i64 0, .int .i32 0] 23)).heap[w.heap.size]? = some (.cells #[.string s, .int .i64 0, .int .u32 o, .int .u32 f, .int .u32 g] 51) := by
    rw [Below.heap_alloc _ _ _ (by simp), alloc_at]
  have r1 : ((w.alloc (.cells #[.string s, .int .i64 0, .int .u32 o, .int .u32 f, .int .u32 g] 51)).alloc (.cells #[.string ⟨#[]⟩, .int .i64 0, .int .i64 0, .int .i64 0, .int .i32 0] 23)).heap[w.heap.size + 1]? = some (.cells #[.string ⟨#[]⟩, .int .i64 0, .int .i64 0, .int .i64 0, .int .i32 0] 23) := by
    have := alloc_at (w.alloc (.cells #[.string s, .int .i64 0, .int .u32 o, .int .u32 f, .int .u32 g] 51)) (.cells #[.string ⟨#[]⟩, .int .i64 0, .int .i64 0, .int .i64 0, .int .i32 0] 23)
    rwa [World.size_alloc] at this
  have HB : Hid (Below w.heap.size w ((w.alloc (.cells #[.string s, .int .i64 0, .int .u32 o, .int .u32 f, .int .u32 g] 51)).alloc (.cells #[.string ⟨#[]⟩, .int .i64 0, .int .i64 0, .int .i64 0, .int .i32 0] 23))) := box2
  have hrb : w.heap.size ≤ w.heap.size + 1 := by omega
  generalize (w.alloc (.cells #[.string s, .int .i64 0, .int .u32 o, .int .u32 f, .int .u32 g] 51)).alloc (.cells #[.string ⟨#[]⟩, .int .i64 0, .int .i64 0, .int .i64 0, .int .i32 0] 23) = V at *
  generalize hrb' : w.heap.size + 1 = rb at *
  obtain ⟨kc, _, zk⟩ := cells_of k1
  obtain ⟨rc, rf, zr⟩ := cells_of r1
  have kc0 := kc 0 (.string s) rfl
  have kc1 := kc 1 (.int .i64 0) rfl
  have rc0 := rc 0 (.string ⟨#[]⟩) rfl
  have rc1 := rc 1 (.int .i64 0) rfl
  have rc2 := rc 2 (.int .i64 0) rfl
  have rc3 := rc 3 (.int .i64 0) rfl
  have rc4 := rc 4 (.int .i32 0) rfl
  have rf0 := rf 0
  have rf1 := rf 1
  have rf2 := rf 2
  have rf3 := rf 3
  have rf4 := rf 4
  clear kc rc rf k1 r1 hrb'
  go_wp2
  obtain ⟨Y, hY, y0, y1, y2, y3, y4, bY⟩ := five_at (v0 := .string s) (v1 := .int .i64 d5) (v2 := .int .i64 a5) (v3 := .int .i64 b5) (v4 := .int .i32 0) rc0 rc1 rc2 rc3 rc4 HB.out hrb
  rw [← hY]
  clear hY
  refine bodyPost_ret (v := .agg #[.string s, .int .i64 d5, .int .i64 a5, .int .i64 b5, .int .i32 0]) ?_ rfl ?_
  · simp [results, Try.results25, go_sem, y0, y1, y2, y3, y4]
  · refine ⟨?_, bY⟩
    rw [show decM 0 x = 0 from rfl]
set_option maxRecDepth 100000 in
set_option maxHeartbeats 2000000 in
theorem dec_1 (s : ByteArray) (la o f g x : Int) (hla : la = 1) (hx : U32 x) (w : World) :
    Calls Try.prog 25 #[.agg #[.string s, .int .i64 la, .int .u32 o, .int .u32 f, .int .u32 g], .int .u32 x] w fun e w' => e = .returned (.agg #[.string s, .int .i64 (bitsV x 7 5), .int .i64 (bitsV x 15 5), .int .i64 0, .int .i32 (decM 1 x)]) ∧ Below w.heap.size w w' := by
  have hm : Try.prog.follows .mixedOrders = true := by kernel_rfl
  have CD : Hid _ := wbits_in x 7 5 hx (by omega) (by omega) (by omega) (by omega)
  have CA : Hid _ := wbits_in x 15 5 hx (by omega) (by omega) (by omega) (by omega)
  have CB : Hid _ := wbits_in x 20 5 hx (by omega) (by omega) (by omega) (by omega)
  obtain ⟨hd0, hd1⟩ := wbits5 x 7 5 hx (by omega) (by omega) (by omega) (by omega) (by omega)
  obtain ⟨ha0, ha1⟩ := wbits5 x 15 5 hx (by omega) (by omega) (by omega) (by omega) (by omega)
  obtain ⟨hb0, hb1⟩ := wbits5 x 20 5 hx (by omega) (by omega) (by omega) (by omega) (by omega)
  have C37 : Hid _ := wbits_in x 20 12 hx (by omega) (by omega) (by omega) (by omega)
  have U37 := bitsV_u32 x 20 12
  have CS : Hid _ := csigned (bitsV x 20 12) 12 U37
  have HM : Hid (decM 1 x = wrap32 (sextV (bitsV x 20 12) 12)) := by simp [decM, Hid]
  generalize wrap32 (sextV (bitsV x 20 12) 12) = mv at *
  generalize bitsV x 20 12 = y37 at *
  clear U37
  generalize bitsV x 7 5 = d5 at *
  generalize bitsV x 15 5 = a5 at *
  generalize bitsV x 20 5 = b5 at *
  clear hx
  subst hla
  go_enter Try.func25, Try.ntmps25
  go_wp2_with fail
  refine (CD.out _).mono ?_
  rintro e w' ⟨rfl, rfl⟩
  go_wp2_with fail
  refine (CA.out _).mono ?_
  rintro e w' ⟨rfl, rfl⟩
  go_wp2_with fail
  refine (CB.out _).mono ?_
  rintro e w' ⟨rfl, rfl⟩
  have k1 : ((w.alloc (.cells #[.string s, .int .i64 1, .int .u32 o, .int .u32 f, .int .u32 g] 51)).alloc (.cells #[.string ⟨#[]⟩, .int .i64 0, .int .i64 0, .int .i64 0, .int .i32 0] 23)).heap[w.heap.size]? = some (.cells #[.string s, .int .i64 1, .int .u32 o, .int .u32 f, .int .u32 g] 51) := by
    rw [Below.heap_alloc _ _ _ (by simp), alloc_at]
  have r1 : ((w.alloc (.cells #[.string s, .int .i64 1, .int .u32 o, .int .u32 f, .int .u32 g] 51)).alloc (.cells #[.string ⟨#[]⟩, .int .i64 0, .int .i64 0, .int .i64 0, .int .i32 0] 23)).heap[w.heap.size + 1]? = some (.cells #[.string ⟨#[]⟩, .int .i64 0, .int .i64 0, .int .i64 0, .int .i32 0] 23) := by
    have := alloc_at (w.alloc (.cells #[.string s, .int .i64 1, .int .u32 o, .int .u32 f, .int .u32 g] 51)) (.cells #[.string ⟨#[]⟩, .int .i64 0, .int .i64 0, .int .i64 0, .int .i32 0] 23)
    rwa [World.size_alloc] at this
  have HB : Hid (Below w.heap.size w ((w.alloc (.cells #[.string s, .int .i64 1, .int .u32 o, .int .u32 f, .int .u32 g] 51)).alloc (.cells #[.string ⟨#[]⟩, .int .i64 0, .int .i64 0, .int .i64 0, .int .i32 0] 23))) := box2
  have hrb : w.heap.size ≤ w.heap.size + 1 := by omega
  generalize (w.alloc (.cells #[.string s, .int .i64 1, .int .u32 o, .int .u32 f, .int .u32 g] 51)).alloc (.cells #[.string ⟨#[]⟩, .int .i64 0, .int .i64 0, .int .i64 0, .int .i32 0] 23) = V at *
  generalize hrb' : w.heap.size + 1 = rb at *
  obtain ⟨kc, _, zk⟩ := cells_of k1
  obtain ⟨rc, rf, zr⟩ := cells_of r1
  have kc0 := kc 0 (.string s) rfl
  have kc1 := kc 1 (.int .i64 1) rfl
  have rc0 := rc 0 (.string ⟨#[]⟩) rfl
  have rc1 := rc 1 (.int .i64 0) rfl
  have rc2 := rc 2 (.int .i64 0) rfl
  have rc3 := rc 3 (.int .i64 0) rfl
  have rc4 := rc 4 (.int .i32 0) rfl
  have rf0 := rf 0
  have rf1 := rf 1
  have rf2 := rf 2
  have rf3 := rf 3
  have rf4 := rf 4
  clear kc rc rf k1 r1 hrb'
  go_wp2_with fail
  refine wp_region_mix_tail 8 [] [.pointer (some ⟨w.heap.size, 0, none⟩), .string s, .int .i64 d5, .int .i64 a5, .int .u32 x, .int .u32 y37, .int .i32 mv, .agg #[.string s, .int .i64 d5, .int .i64 a5, .int .i64 0, .int .i32 mv]] hm (by kernel_rfl) (by kernel_rfl) (by intro r hr; cases hr) ?_ (by intro r hr; cases hr) (by intro r hr; cases hr) ?_
  · generalize hl : lay _ _ _ = af
    have e2 : af.tmps[2]?.getD undef = .pointer (some ⟨w.heap.size, 0, none⟩) := by rw [← hl]; kernel_rfl
    have e32 : af.tmps[32]?.getD undef = .pointer (some ⟨w.heap.size, 0, none⟩) := by rw [← hl]; kernel_rfl
    have e5 : af.tmps[5]?.getD undef = .int .i64 d5 := by rw [← hl]; kernel_rfl
    have e6 : af.tmps[6]?.getD undef = .int .i64 a5 := by rw [← hl]; kernel_rfl
    have e1 : af.tmps[1]?.getD undef = .int .u32 x := by rw [← hl]; kernel_rfl
    have e36 : af.tmps[36]?.getD undef = .int .u32 x := by rw [← hl]; kernel_rfl
    have e37 : af.tmps[37]?.getD undef = .int .u32 y37 := by rw [← hl]; kernel_rfl
    have e33 : af.tmps[33]?.getD undef = .string s := by rw [← hl]; kernel_rfl
    have e34 : af.tmps[34]?.getD undef = .int .i64 d5 := by rw [← hl]; kernel_rfl
    have e35 : af.tmps[35]?.getD undef = .int .i64 a5 := by rw [← hl]; kernel_rfl
    have e38 : af.tmps[38]?.getD undef = .int .i32 mv := by rw [← hl]; kernel_rfl
    clear hl
    refine And.intro (fun w' hw => ?_) ?_
    · exact quiet_run (by simp [execOp, go_sem, e2])
    refine And.intro (fun w' hw => ?_) ?_
    · have c0 := hw.cell (p := ⟨w.heap.size, 0, none⟩) zk
      rw [kc0] at c0
      exact quiet_run (by simp [execOp, go_sem, e32, c0])
    refine And.intro (fun w' hw => ?_) ?_
    · exact quiet_run (by simp [execOp, go_sem, e5])
    refine And.intro (fun w' hw => ?_) ?_
    · exact quiet_run (by simp [execOp, go_sem, e6])
    refine And.intro (fun w' hw => ?_) ?_
    · exact quiet_run (by simp [execOp, go_sem, e1])
    refine And.intro (fun w' hw => ?_) ?_
    · exact quiet_enter 37 #[.int .u32 x, .int .i64 20, .int .i64 12] (by simp [go_sem, e36]) ((C37.out _).mono (by rintro e w'' ⟨rfl, rfl⟩; exact ⟨rfl, Below.refl _ _⟩))
    refine And.intro (fun w' hw => ?_) ?_
    · exact quiet_enter 38 #[.int .u32 y37, .int .i64 12] (by simp [go_sem, e37]) ((CS.out _).mono (by rintro e w'' ⟨rfl, rfl⟩; exact ⟨rfl, Below.refl _ _⟩))
    refine And.intro (fun w' hw => ?_) ?_
    · exact quiet_run (by simp [execOp, go_sem, e33, e34, e35, e38])
    exact True.intro
  · intro β3 W3 hW3 _ _
    simp [putAl, lay, Act.put]
    rw [← hW3.cell (p := ⟨rb, 0, none⟩) zr] at rc0
    rw [← hW3.frozen (p := ⟨rb, 0, none⟩) zr] at rf0
    rw [← hW3.cell (p := ⟨rb, 1, none⟩) zr] at rc1
    rw [← hW3.frozen (p := ⟨rb, 1, none⟩) zr] at rf1
    rw [← hW3.cell (p := ⟨rb, 2, none⟩) zr] at rc2
    rw [← hW3.frozen (p := ⟨rb, 2, none⟩) zr] at rf2
    rw [← hW3.cell (p := ⟨rb, 3, none⟩) zr] at rc3
    rw [← hW3.frozen (p := ⟨rb, 3, none⟩) zr] at rf3
    rw [← hW3.cell (p := ⟨rb, 4, none⟩) zr] at rc4
    rw [← hW3.frozen (p := ⟨rb, 4, none⟩) zr] at rf4
    have HB3 : Hid (Below w.heap.size w W3) := below_step HB.out hW3
    clear hW3
    go_wp2
    obtain ⟨Y, hY, y0, y1, y2, y3, y4, bY⟩ := five_at (v0 := .string s) (v1 := .int .i64 d5) (v2 := .int .i64 a5) (v3 := .int .i64 0) (v4 := .int .i32 mv) rc0 rc1 rc2 rc3 rc4 HB3.out hrb
    rw [← hY]
    clear hY
    refine bodyPost_ret (v := .agg #[.string s, .int .i64 d5, .int .i64 a5, .int .i64 0, .int .i32 mv]) ?_ rfl ?_
    · simp [results, Try.results25, go_sem, y0, y1, y2, y3, y4]
    · refine ⟨?_, bY⟩
      rw [show decM 1 x = mv from HM.out]
set_option maxRecDepth 100000 in
set_option maxHeartbeats 2000000 in
theorem dec_2 (s : ByteArray) (la o f g x : Int) (hla : la = 2) (hx : U32 x) (w : World) :
    Calls Try.prog 25 #[.agg #[.string s, .int .i64 la, .int .u32 o, .int .u32 f, .int .u32 g], .int .u32 x] w fun e w' => e = .returned (.agg #[.string s, .int .i64 (bitsV x 7 5), .int .i64 (bitsV x 15 5), .int .i64 0, .int .i32 (decM 2 x)]) ∧ Below w.heap.size w w' := by
  have hm : Try.prog.follows .mixedOrders = true := by kernel_rfl
  have CD : Hid _ := wbits_in x 7 5 hx (by omega) (by omega) (by omega) (by omega)
  have CA : Hid _ := wbits_in x 15 5 hx (by omega) (by omega) (by omega) (by omega)
  have CB : Hid _ := wbits_in x 20 5 hx (by omega) (by omega) (by omega) (by omega)
  obtain ⟨hd0, hd1⟩ := wbits5 x 7 5 hx (by omega) (by omega) (by omega) (by omega) (by omega)
  obtain ⟨ha0, ha1⟩ := wbits5 x 15 5 hx (by omega) (by omega) (by omega) (by omega) (by omega)
  obtain ⟨hb0, hb1⟩ := wbits5 x 20 5 hx (by omega) (by omega) (by omega) (by omega) (by omega)
  have C47 : Hid _ := wbits_in x 20 5 hx (by omega) (by omega) (by omega) (by omega)
  have U47 := bitsV_u32 x 20 5
  have HM : Hid (decM 2 x = wrap32 (bitsV x 20 5)) := by simp [decM, Hid]
  have hcv : IntKind.i32.wrap (bitsV x 20 5) = wrap32 (bitsV x 20 5) := wrap_i32x _
  generalize wrap32 (bitsV x 20 5) = mv at *
  clear U47
  generalize bitsV x 7 5 = d5 at *
  generalize bitsV x 15 5 = a5 at *
  generalize bitsV x 20 5 = b5 at *
  clear hx
  subst hla
  go_enter Try.func25, Try.ntmps25
  go_wp2_with fail
  refine (CD.out _).mono ?_
  rintro e w' ⟨rfl, rfl⟩
  go_wp2_with fail
  refine (CA.out _).mono ?_
  rintro e w' ⟨rfl, rfl⟩
  go_wp2_with fail
  refine (CB.out _).mono ?_
  rintro e w' ⟨rfl, rfl⟩
  have k1 : ((w.alloc (.cells #[.string s, .int .i64 2, .int .u32 o, .int .u32 f, .int .u32 g] 51)).alloc (.cells #[.string ⟨#[]⟩, .int .i64 0, .int .i64 0, .int .i64 0, .int .i32 0] 23)).heap[w.heap.size]? = some (.cells #[.string s, .int .i64 2, .int .u32 o, .int .u32 f, .int .u32 g] 51) := by
    rw [Below.heap_alloc _ _ _ (by simp), alloc_at]
  have r1 : ((w.alloc (.cells #[.string s, .int .i64 2, .int .u32 o, .int .u32 f, .int .u32 g] 51)).alloc (.cells #[.string ⟨#[]⟩, .int .i64 0, .int .i64 0, .int .i64 0, .int .i32 0] 23)).heap[w.heap.size + 1]? = some (.cells #[.string ⟨#[]⟩, .int .i64 0, .int .i64 0, .int .i64 0, .int .i32 0] 23) := by
    have := alloc_at (w.alloc (.cells #[.string s, .int .i64 2, .int .u32 o, .int .u32 f, .int .u32 g] 51)) (.cells #[.string ⟨#[]⟩, .int .i64 0, .int .i64 0, .int .i64 0, .int .i32 0] 23)
    rwa [World.size_alloc] at this
  have HB : Hid (Below w.heap.size w ((w.alloc (.cells #[.string s, .int .i64 2, .int .u32 o, .int .u32 f, .int .u32 g] 51)).alloc (.cells #[.string ⟨#[]⟩, .int .i64 0, .int .i64 0, .int .i64 0, .int .i32 0] 23))) := box2
  have hrb : w.heap.size ≤ w.heap.size + 1 := by omega
  generalize (w.alloc (.cells #[.string s, .int .i64 2, .int .u32 o, .int .u32 f, .int .u32 g] 51)).alloc (.cells #[.string ⟨#[]⟩, .int .i64 0, .int .i64 0, .int .i64 0, .int .i32 0] 23) = V at *
  generalize hrb' : w.heap.size + 1 = rb at *
  obtain ⟨kc, _, zk⟩ := cells_of k1
  obtain ⟨rc, rf, zr⟩ := cells_of r1
  have kc0 := kc 0 (.string s) rfl
  have kc1 := kc 1 (.int .i64 2) rfl
  have rc0 := rc 0 (.string ⟨#[]⟩) rfl
  have rc1 := rc 1 (.int .i64 0) rfl
  have rc2 := rc 2 (.int .i64 0) rfl
  have rc3 := rc 3 (.int .i64 0) rfl
  have rc4 := rc 4 (.int .i32 0) rfl
  have rf0 := rf 0
  have rf1 := rf 1
  have rf2 := rf 2
  have rf3 := rf 3
  have rf4 := rf 4
  clear kc rc rf k1 r1 hrb'
  go_wp2_with fail
  refine wp_region_mix_tail 8 [] [.pointer (some ⟨w.heap.size, 0, none⟩), .string s, .int .i64 d5, .int .i64 a5, .int .u32 x, .int .u32 b5, .int .i32 mv, .agg #[.string s, .int .i64 d5, .int .i64 a5, .int .i64 0, .int .i32 mv]] hm (by kernel_rfl) (by kernel_rfl) (by intro r hr; cases hr) ?_ (by intro r hr; cases hr) (by intro r hr; cases hr) ?_
  · generalize hl : lay _ _ _ = af
    have e2 : af.tmps[2]?.getD undef = .pointer (some ⟨w.heap.size, 0, none⟩) := by rw [← hl]; kernel_rfl
    have e42 : af.tmps[42]?.getD undef = .pointer (some ⟨w.heap.size, 0, none⟩) := by rw [← hl]; kernel_rfl
    have e5 : af.tmps[5]?.getD undef = .int .i64 d5 := by rw [← hl]; kernel_rfl
    have e6 : af.tmps[6]?.getD undef = .int .i64 a5 := by rw [← hl]; kernel_rfl
    have e1 : af.tmps[1]?.getD undef = .int .u32 x := by rw [← hl]; kernel_rfl
    have e46 : af.tmps[46]?.getD undef = .int .u32 x := by rw [← hl]; kernel_rfl
    have e47 : af.tmps[47]?.getD undef = .int .u32 b5 := by rw [← hl]; kernel_rfl
    have e43 : af.tmps[43]?.getD undef = .string s := by rw [← hl]; kernel_rfl
    have e44 : af.tmps[44]?.getD undef = .int .i64 d5 := by rw [← hl]; kernel_rfl
    have e45 : af.tmps[45]?.getD undef = .int .i64 a5 := by rw [← hl]; kernel_rfl
    have e48 : af.tmps[48]?.getD undef = .int .i32 mv := by rw [← hl]; kernel_rfl
    clear hl
    refine And.intro (fun w' hw => ?_) ?_
    · exact quiet_run (by simp [execOp, go_sem, e2])
    refine And.intro (fun w' hw => ?_) ?_
    · have c0 := hw.cell (p := ⟨w.heap.size, 0, none⟩) zk
      rw [kc0] at c0
      exact quiet_run (by simp [execOp, go_sem, e42, c0])
    refine And.intro (fun w' hw => ?_) ?_
    · exact quiet_run (by simp [execOp, go_sem, e5])
    refine And.intro (fun w' hw => ?_) ?_
    · exact quiet_run (by simp [execOp, go_sem, e6])
    refine And.intro (fun w' hw => ?_) ?_
    · exact quiet_run (by simp [execOp, go_sem, e1])
    refine And.intro (fun w' hw => ?_) ?_
    · exact quiet_enter 37 #[.int .u32 x, .int .i64 20, .int .i64 5] (by simp [go_sem, e46]) ((C47.out _).mono (by rintro e w'' ⟨rfl, rfl⟩; exact ⟨rfl, Below.refl _ _⟩))
    refine And.intro (fun w' hw => ?_) ?_
    · exact quiet_run (by simp [execOp, go_sem, e47, hcv])
    refine And.intro (fun w' hw => ?_) ?_
    · exact quiet_run (by simp [execOp, go_sem, e43, e44, e45, e48])
    exact True.intro
  · intro β3 W3 hW3 _ _
    simp [putAl, lay, Act.put]
    rw [← hW3.cell (p := ⟨rb, 0, none⟩) zr] at rc0
    rw [← hW3.frozen (p := ⟨rb, 0, none⟩) zr] at rf0
    rw [← hW3.cell (p := ⟨rb, 1, none⟩) zr] at rc1
    rw [← hW3.frozen (p := ⟨rb, 1, none⟩) zr] at rf1
    rw [← hW3.cell (p := ⟨rb, 2, none⟩) zr] at rc2
    rw [← hW3.frozen (p := ⟨rb, 2, none⟩) zr] at rf2
    rw [← hW3.cell (p := ⟨rb, 3, none⟩) zr] at rc3
    rw [← hW3.frozen (p := ⟨rb, 3, none⟩) zr] at rf3
    rw [← hW3.cell (p := ⟨rb, 4, none⟩) zr] at rc4
    rw [← hW3.frozen (p := ⟨rb, 4, none⟩) zr] at rf4
    have HB3 : Hid (Below w.heap.size w W3) := below_step HB.out hW3
    clear hW3
    go_wp2
    obtain ⟨Y, hY, y0, y1, y2, y3, y4, bY⟩ := five_at (v0 := .string s) (v1 := .int .i64 d5) (v2 := .int .i64 a5) (v3 := .int .i64 0) (v4 := .int .i32 mv) rc0 rc1 rc2 rc3 rc4 HB3.out hrb
    rw [← hY]
    clear hY
    refine bodyPost_ret (v := .agg #[.string s, .int .i64 d5, .int .i64 a5, .int .i64 0, .int .i32 mv]) ?_ rfl ?_
    · simp [results, Try.results25, go_sem, y0, y1, y2, y3, y4]
    · refine ⟨?_, bY⟩
      rw [show decM 2 x = mv from HM.out]
set_option maxRecDepth 100000 in
set_option maxHeartbeats 2000000 in
theorem dec_3 (s : ByteArray) (la o f g x : Int) (hla : la = 3) (hx : U32 x) (w : World) :
    Calls Try.prog 25 #[.agg #[.string s, .int .i64 la, .int .u32 o, .int .u32 f, .int .u32 g], .int .u32 x] w fun e w' => e = .returned (.agg #[.string s, .int .i64 0, .int .i64 (bitsV x 15 5), .int .i64 (bitsV x 20 5), .int .i32 (decM 3 x)]) ∧ Below w.heap.size w w' := by
  have hm : Try.prog.follows .mixedOrders = true := by kernel_rfl
  have CD : Hid _ := wbits_in x 7 5 hx (by omega) (by omega) (by omega) (by omega)
  have CA : Hid _ := wbits_in x 15 5 hx (by omega) (by omega) (by omega) (by omega)
  have CB : Hid _ := wbits_in x 20 5 hx (by omega) (by omega) (by omega) (by omega)
  obtain ⟨hd0, hd1⟩ := wbits5 x 7 5 hx (by omega) (by omega) (by omega) (by omega) (by omega)
  obtain ⟨ha0, ha1⟩ := wbits5 x 15 5 hx (by omega) (by omega) (by omega) (by omega) (by omega)
  obtain ⟨hb0, hb1⟩ := wbits5 x 20 5 hx (by omega) (by omega) (by omega) (by omega) (by omega)
  have C53 : Hid _ := ccutB x 25 7 hx (by omega) (by omega) (by omega) (by omega)
  have C55 : Hid _ := ccutB x 7 5 hx (by omega) (by omega) (by omega) (by omega)
  have CJ : Hid _ := cjoin_new [(bitsV x 25 7, 7), (bitsV x 7 5, 5)] 2 rfl (by omega) (by simp)
  have UJ : U32 (joinV [(bitsV x 25 7, 7), (bitsV x 7 5, 5)] 0) := joinV_u32 _ _ ⟨by omega, by omega⟩
  have CS : Hid _ := csigned (joinV [(bitsV x 25 7, 7), (bitsV x 7 5, 5)] 0) 12 UJ
  clear UJ
  have HM : Hid (decM 3 x = wrap32 (sextV (joinV [(bitsV x 25 7, 7), (bitsV x 7 5, 5)] 0) 12)) := by simp [decM, Hid]
  generalize wrap32 (sextV (joinV [(bitsV x 25 7, 7), (bitsV x 7 5, 5)] 0) 12) = mv at *
  generalize hJ : joinV [(bitsV x 25 7, 7), (bitsV x 7 5, 5)] 0 = jv at *
  generalize bitsV x 25 7 = y53 at *
  generalize bitsV x 7 5 = y55 at *
  clear hJ
  generalize bitsV x 7 5 = d5 at *
  generalize bitsV x 15 5 = a5 at *
  generalize bitsV x 20 5 = b5 at *
  clear hx
  subst hla
  go_enter Try.func25, Try.ntmps25
  go_wp2_with fail
  refine (CD.out _).mono ?_
  rintro e w' ⟨rfl, rfl⟩
  go_wp2_with fail
  refine (CA.out _).mono ?_
  rintro e w' ⟨rfl, rfl⟩
  go_wp2_with fail
  refine (CB.out _).mono ?_
  rintro e w' ⟨rfl, rfl⟩
  have k1 : ((w.alloc (.cells #[.string s, .int .i64 3, .int .u32 o, .int .u32 f, .int .u32 g] 51)).alloc (.cells #[.string ⟨#[]⟩, .int .i64 0, .int .i64 0, .int .i64 0, .int .i32 0] 23)).heap[w.heap.size]? = some (.cells #[.string s, .int .i64 3, .int .u32 o, .int .u32 f, .int .u32 g] 51) := by
    rw [Below.heap_alloc _ _ _ (by simp), alloc_at]
  have r1 : ((w.alloc (.cells #[.string s, .int .i64 3, .int .u32 o, .int .u32 f, .int .u32 g] 51)).alloc (.cells #[.string ⟨#[]⟩, .int .i64 0, .int .i64 0, .int .i64 0, .int .i32 0] 23)).heap[w.heap.size + 1]? = some (.cells #[.string ⟨#[]⟩, .int .i64 0, .int .i64 0, .int .i64 0, .int .i32 0] 23) := by
    have := alloc_at (w.alloc (.cells #[.string s, .int .i64 3, .int .u32 o, .int .u32 f, .int .u32 g] 51)) (.cells #[.string ⟨#[]⟩, .int .i64 0, .int .i64 0, .int .i64 0, .int .i32 0] 23)
    rwa [World.size_alloc] at this
  have HB : Hid (Below w.heap.size w ((w.alloc (.cells #[.string s, .int .i64 3, .int .u32 o, .int .u32 f, .int .u32 g] 51)).alloc (.cells #[.string ⟨#[]⟩, .int .i64 0, .int .i64 0, .int .i64 0, .int .i32 0] 23))) := box2
  have hrb : w.heap.size ≤ w.heap.size + 1 := by omega
  generalize (w.alloc (.cells #[.string s, .int .i64 3, .int .u32 o, .int .u32 f, .int .u32 g] 51)).alloc (.cells #[.string ⟨#[]⟩, .int .i64 0, .int .i64 0, .int .i64 0, .int .i32 0] 23) = V at *
  generalize hrb' : w.heap.size + 1 = rb at *
  obtain ⟨kc, _, zk⟩ := cells_of k1
  obtain ⟨rc, rf, zr⟩ := cells_of r1
  have kc0 := kc 0 (.string s) rfl
  have kc1 := kc 1 (.int .i64 3) rfl
  have rc0 := rc 0 (.string ⟨#[]⟩) rfl
  have rc1 := rc 1 (.int .i64 0) rfl
  have rc2 := rc 2 (.int .i64 0) rfl
  have rc3 := rc 3 (.int .i64 0) rfl
  have rc4 := rc 4 (.int .i32 0) rfl
  have rf0 := rf 0
  have rf1 := rf 1
  have rf2 := rf 2
  have rf3 := rf 3
  have rf4 := rf 4
  clear kc rc rf k1 r1 hrb'
  go_wp2_with fail
  refine (C53.out _).mono ?_
  rintro e w53 ⟨rfl, hb53⟩
  have H53 : Hid (Below V.heap.size V w53) := below_step (Below.refl V.heap.size V) hb53
  clear hb53
  go_wp2_with fail
  refine (C55.out _).mono ?_
  rintro e w55 ⟨rfl, hb55⟩
  have H55 : Hid (Below V.heap.size V w55) := below_step H53.out hb55
  clear hb55
  go_wp2_with fail
  refine (CJ.out _).mono ?_
  rintro e W ⟨rfl, hbW⟩
  have HW : Hid (Below V.heap.size V W) := below_step H55.out hbW
  have HBW : Hid (Below w.heap.size w W) := below_step HB.out HW.out
  rw [← HW.out.cell (p := ⟨rb, 0, none⟩) zr] at rc0
  rw [← HW.out.frozen (p := ⟨rb, 0, none⟩) zr] at rf0
  rw [← HW.out.cell (p := ⟨rb, 1, none⟩) zr] at rc1
  rw [← HW.out.frozen (p := ⟨rb, 1, none⟩) zr] at rf1
  rw [← HW.out.cell (p := ⟨rb, 2, none⟩) zr] at rc2
  rw [← HW.out.frozen (p := ⟨rb, 2, none⟩) zr] at rf2
  rw [← HW.out.cell (p := ⟨rb, 3, none⟩) zr] at rc3
  rw [← HW.out.frozen (p := ⟨rb, 3, none⟩) zr] at rf3
  rw [← HW.out.cell (p := ⟨rb, 4, none⟩) zr] at rc4
  rw [← HW.out.frozen (p := ⟨rb, 4, none⟩) zr] at rf4
  rw [← HW.out.cell (p := ⟨w.heap.size, 0, none⟩) zk] at kc0
  have zr' := Nat.lt_of_lt_of_le zr HW.out.size
  have zk' := Nat.lt_of_lt_of_le zk HW.out.size
  clear zr zk hbW
  go_wp2_with fail
  refine wp_region_mix_tail 7 [] [.pointer (some ⟨w.heap.size, 0, none⟩), .string s, .int .i64 a5, .int .i64 b5, .int .u32 jv, .int .i32 mv, .agg #[.string s, .int .i64 0, .int .i64 a5, .int .i64 b5, .int .i32 mv]] hm (by kernel_rfl) (by kernel_rfl) (by intro r hr; cases hr) ?_ (by intro r hr; cases hr) (by intro r hr; cases hr) ?_
  · generalize hl : lay _ _ _ = af
    have e2 : af.tmps[2]?.getD undef = .pointer (some ⟨w.heap.size, 0, none⟩) := by rw [← hl]; kernel_rfl
    have e58 : af.tmps[58]?.getD undef = .pointer (some ⟨w.heap.size, 0, none⟩) := by rw [← hl]; kernel_rfl
    have e6 : af.tmps[6]?.getD undef = .int .i64 a5 := by rw [← hl]; kernel_rfl
    have e7 : af.tmps[7]?.getD undef = .int .i64 b5 := by rw [← hl]; kernel_rfl
    have e8 : af.tmps[8]?.getD undef = .int .u32 jv := by rw [← hl]; kernel_rfl
    have e62 : af.tmps[62]?.getD undef = .int .u32 jv := by rw [← hl]; kernel_rfl
    have e59 : af.tmps[59]?.getD undef = .string s := by rw [← hl]; kernel_rfl
    have e60 : af.tmps[60]?.getD undef = .int .i64 a5 := by rw [← hl]; kernel_rfl
    have e61 : af.tmps[61]?.getD undef = .int .i64 b5 := by rw [← hl]; kernel_rfl
    have e63 : af.tmps[63]?.getD undef = .int .i32 mv := by rw [← hl]; kernel_rfl
    clear hl
    refine And.intro (fun w' hw => ?_) ?_
    · exact quiet_run (by simp [execOp, go_sem, e2])
    refine And.intro (fun w' hw => ?_) ?_
    · have c0 := hw.cell (p := ⟨w.heap.size, 0, none⟩) zk'
      rw [kc0] at c0
      exact quiet_run (by simp [execOp, go_sem, e58, c0])
    refine And.intro (fun w' hw => ?_) ?_
    · exact quiet_run (by simp [execOp, go_sem, e6])
    refine And.intro (fun w' hw => ?_) ?_
    · exact quiet_run (by simp [execOp, go_sem, e7])
    refine And.intro (fun w' hw => ?_) ?_
    · exact quiet_run (by simp [execOp, go_sem, e8])
    refine And.intro (fun w' hw => ?_) ?_
    · exact quiet_enter 38 #[.int .u32 jv, .int .i64 12] (by simp [go_sem, e62]) ((CS.out _).mono (by rintro e w'' ⟨rfl, rfl⟩; exact ⟨rfl, Below.refl _ _⟩))
    refine And.intro (fun w' hw => ?_) ?_
    · exact quiet_run (by simp [execOp, go_sem, e59, e60, e61, e63])
    exact True.intro
  · intro β3 W3 hW3 _ _
    simp [putAl, lay, Act.put]
    rw [← hW3.cell (p := ⟨rb, 0, none⟩) zr'] at rc0
    rw [← hW3.frozen (p := ⟨rb, 0, none⟩) zr'] at rf0
    rw [← hW3.cell (p := ⟨rb, 1, none⟩) zr'] at rc1
    rw [← hW3.frozen (p := ⟨rb, 1, none⟩) zr'] at rf1
    rw [← hW3.cell (p := ⟨rb, 2, none⟩) zr'] at rc2
    rw [← hW3.frozen (p := ⟨rb, 2, none⟩) zr'] at rf2
    rw [← hW3.cell (p := ⟨rb, 3, none⟩) zr'] at rc3
    rw [← hW3.frozen (p := ⟨rb, 3, none⟩) zr'] at rf3
    rw [← hW3.cell (p := ⟨rb, 4, none⟩) zr'] at rc4
    rw [← hW3.frozen (p := ⟨rb, 4, none⟩) zr'] at rf4
    have HB3 : Hid (Below w.heap.size w W3) := below_step HBW.out hW3
    clear hW3
    go_wp2
    obtain ⟨Y, hY, y0, y1, y2, y3, y4, bY⟩ := five_at (v0 := .string s) (v1 := .int .i64 0) (v2 := .int .i64 a5) (v3 := .int .i64 b5) (v4 := .int .i32 mv) rc0 rc1 rc2 rc3 rc4 HB3.out hrb
    rw [← hY]
    clear hY
    refine bodyPost_ret (v := .agg #[.string s, .int .i64 0, .int .i64 a5, .int .i64 b5, .int .i32 mv]) ?_ rfl ?_
    · simp [results, Try.results25, go_sem, y0, y1, y2, y3, y4]
    · refine ⟨?_, bY⟩
      rw [show decM 3 x = mv from HM.out]
set_option maxRecDepth 100000 in
set_option maxHeartbeats 2000000 in
theorem dec_4 (s : ByteArray) (la o f g x : Int) (hla : la = 4) (hx : U32 x) (w : World) :
    Calls Try.prog 25 #[.agg #[.string s, .int .i64 la, .int .u32 o, .int .u32 f, .int .u32 g], .int .u32 x] w fun e w' => e = .returned (.agg #[.string s, .int .i64 0, .int .i64 (bitsV x 15 5), .int .i64 (bitsV x 20 5), .int .i32 (decM 4 x)]) ∧ Below w.heap.size w w' := by
  have hm : Try.prog.follows .mixedOrders = true := by kernel_rfl
  have CD : Hid _ := wbits_in x 7 5 hx (by omega) (by omega) (by omega) (by omega)
  have CA : Hid _ := wbits_in x 15 5 hx (by omega) (by omega) (by omega) (by omega)
  have CB : Hid _ := wbits_in x 20 5 hx (by omega) (by omega) (by omega) (by omega)
  obtain ⟨hd0, hd1⟩ := wbits5 x 7 5 hx (by omega) (by omega) (by omega) (by omega) (by omega)
  obtain ⟨ha0, ha1⟩ := wbits5 x 15 5 hx (by omega) (by omega) (by omega) (by omega) (by omega)
  obtain ⟨hb0, hb1⟩ := wbits5 x 20 5 hx (by omega) (by omega) (by omega) (by omega) (by omega)
  have C68 : Hid _ := ccutB x 31 1 hx (by omega) (by omega) (by omega) (by omega)
  have C70 : Hid _ := ccutB x 7 1 hx (by omega) (by omega) (by omega) (by omega)
  have C72 : Hid _ := ccutB x 25 6 hx (by omega) (by omega) (by omega) (by omega)
  have C74 : Hid _ := ccutB x 8 4 hx (by omega) (by omega) (by omega) (by omega)
  have C75 : Hid _ := ccutB 0 0 1 ⟨by omega, by omega⟩ (by omega) (by omega) (by omega) (by omega)
  have CJ : Hid _ := cjoin_new [(bitsV x 31 1, 1), (bitsV x 7 1, 1), (bitsV x 25 6, 6), (bitsV x 8 4, 4), (bitsV 0 0 1, 1)] 5 rfl (by omega) (by simp)
  have UJ : U32 (joinV [(bitsV x 31 1, 1), (bitsV x 7 1, 1), (bitsV x 25 6, 6), (bitsV x 8 4, 4), (bitsV 0 0 1, 1)] 0) := joinV_u32 _ _ ⟨by omega, by omega⟩
  have CS : Hid _ := csigned (joinV [(bitsV x 31 1, 1), (bitsV x 7 1, 1), (bitsV x 25 6, 6), (bitsV x 8 4, 4), (bitsV 0 0 1, 1)] 0) 13 UJ
  clear UJ
  have HM : Hid (decM 4 x = wrap32 (sextV (joinV [(bitsV x 31 1, 1), (bitsV x 7 1, 1), (bitsV x 25 6, 6), (bitsV x 8 4, 4), (bitsV 0 0 1, 1)] 0) 13)) := by simp [decM, Hid]
  generalize wrap32 (sextV (joinV [(bitsV x 31 1, 1), (bitsV x 7 1, 1), (bitsV x 25 6, 6), (bitsV x 8 4, 4), (bitsV 0 0 1, 1)] 0) 13) = mv at *
  generalize hJ : joinV [(bitsV x 31 1, 1), (bitsV x 7 1, 1), (bitsV x 25 6, 6), (bitsV x 8 4, 4), (bitsV 0 0 1, 1)] 0 = jv at *
  generalize bitsV x 31 1 = y68 at *
  generalize bitsV x 7 1 = y70 at *
  generalize bitsV x 25 6 = y72 at *
  generalize bitsV x 8 4 = y74 at *
  generalize bitsV 0 0 1 = y75 at *
  clear hJ
  generalize bitsV x 7 5 = d5 at *
  generalize bitsV x 15 5 = a5 at *
  generalize bitsV x 20 5 = b5 at *
  clear hx
  subst hla
  go_enter Try.func25, Try.ntmps25
  go_wp2_with fail
  refine (CD.out _).mono ?_
  rintro e w' ⟨rfl, rfl⟩
  go_wp2_with fail
  refine (CA.out _).mono ?_
  rintro e w' ⟨rfl, rfl⟩
  go_wp2_with fail
  refine (CB.out _).mono ?_
  rintro e w' ⟨rfl, rfl⟩
  have k1 : ((w.alloc (.cells #[.string s, .int .i64 4, .int .u32 o, .int .u32 f, .int .u32 g] 51)).alloc (.cells #[.string ⟨#[]⟩, .int .i64 0, .int .i64 0, .int .i64 0, .int .i32 0] 23)).heap[w.heap.size]? = some (.cells #[.string s, .int .i64 4, .int .u32 o, .int .u32 f, .int .u32 g] 51) := by
    rw [Below.heap_alloc _ _ _ (by simp), alloc_at]
  have r1 : ((w.alloc (.cells #[.string s, .int .i64 4, .int .u32 o, .int .u32 f, .int .u32 g] 51)).alloc (.cells #[.string ⟨#[]⟩, .int .i64 0, .int .i64 0, .int .i64 0, .int .i32 0] 23)).heap[w.heap.size + 1]? = some (.cells #[.string ⟨#[]⟩, .int .i64 0, .int .i64 0, .int .i64 0, .int .i32 0] 23) := by
    have := alloc_at (w.alloc (.cells #[.string s, .int .i64 4, .int .u32 o, .int .u32 f, .int .u32 g] 51)) (.cells #[.string ⟨#[]⟩, .int .i64 0, .int .i64 0, .int .i64 0, .int .i32 0] 23)
    rwa [World.size_alloc] at this
  have HB : Hid (Below w.heap.size w ((w.alloc (.cells #[.string s, .int .i64 4, .int .u32 o, .int .u32 f, .int .u32 g] 51)).alloc (.cells #[.string ⟨#[]⟩, .int .i64 0, .int .i64 0, .int .i64 0, .int .i32 0] 23))) := box2
  have hrb : w.heap.size ≤ w.heap.size + 1 := by omega
  generalize (w.alloc (.cells #[.string s, .int .i64 4, .int .u32 o, .int .u32 f, .int .u32 g] 51)).alloc (.cells #[.string ⟨#[]⟩, .int .i64 0, .int .i64 0, .int .i64 0, .int .i32 0] 23) = V at *
  generalize hrb' : w.heap.size + 1 = rb at *
  obtain ⟨kc, _, zk⟩ := cells_of k1
  obtain ⟨rc, rf, zr⟩ := cells_of r1
  have kc0 := kc 0 (.string s) rfl
  have kc1 := kc 1 (.int .i64 4) rfl
  have rc0 := rc 0 (.string ⟨#[]⟩) rfl
  have rc1 := rc 1 (.int .i64 0) rfl
  have rc2 := rc 2 (.int .i64 0) rfl
  have rc3 := rc 3 (.int .i64 0) rfl
  have rc4 := rc 4 (.int .i32 0) rfl
  have rf0 := rf 0
  have rf1 := rf 1
  have rf2 := rf 2
  have rf3 := rf 3
  have rf4 := rf 4
  clear kc rc rf k1 r1 hrb'
  go_wp2_with fail
  refine (C68.out _).mono ?_
  rintro e w68 ⟨rfl, hb68⟩
  have H68 : Hid (Below V.heap.size V w68) := below_step (Below.refl V.heap.size V) hb68
  clear hb68
  go_wp2_with fail
  refine (C70.out _).mono ?_
  rintro e w70 ⟨rfl, hb70⟩
  have H70 : Hid (Below V.heap.size V w70) := below_step H68.out hb70
  clear hb70
  go_wp2_with fail
  refine (C72.out _).mono ?_
  rintro e w72 ⟨rfl, hb72⟩
  have H72 : Hid (Below V.heap.size V w72) := below_step H70.out hb72
  clear hb72
  go_wp2_with fail
  refine (C74.out _).mono ?_
  rintro e w74 ⟨rfl, hb74⟩
  have H74 : Hid (Below V.heap.size V w74) := below_step H72.out hb74
  clear hb74
  go_wp2_with fail
  refine (C75.out _).mono ?_
  rintro e w75 ⟨rfl, hb75⟩
  have H75 : Hid (Below V.heap.size V w75) := below_step H74.out hb75
  clear hb75
  go_wp2_with fail
  refine (CJ.out _).mono ?_
  rintro e W ⟨rfl, hbW⟩
  have HW : Hid (Below V.heap.size V W) := below_step H75.out hbW
  have HBW : Hid (Below w.heap.size w W) := below_step HB.out HW.out
  rw [← HW.out.cell (p := ⟨rb, 0, none⟩) zr] at rc0
  rw [← HW.out.frozen (p := ⟨rb, 0, none⟩) zr] at rf0
  rw [← HW.out.cell (p := ⟨rb, 1, none⟩) zr] at rc1
  rw [← HW.out.frozen (p := ⟨rb, 1, none⟩) zr] at rf1
  rw [← HW.out.cell (p := ⟨rb, 2, none⟩) zr] at rc2
  rw [← HW.out.frozen (p := ⟨rb, 2, none⟩) zr] at rf2
  rw [← HW.out.cell (p := ⟨rb, 3, none⟩) zr] at rc3
  rw [← HW.out.frozen (p := ⟨rb, 3, none⟩) zr] at rf3
  rw [← HW.out.cell (p := ⟨rb, 4, none⟩) zr] at rc4
  rw [← HW.out.frozen (p := ⟨rb, 4, none⟩) zr] at rf4
  rw [← HW.out.cell (p := ⟨w.heap.size, 0, none⟩) zk] at kc0
  have zr' := Nat.lt_of_lt_of_le zr HW.out.size
  have zk' := Nat.lt_of_lt_of_le zk HW.out.size
  clear zr zk hbW
  go_wp2_with fail
  refine wp_region_mix_tail 7 [] [.pointer (some ⟨w.heap.size, 0, none⟩), .string s, .int .i64 a5, .int .i64 b5, .int .u32 jv, .int .i32 mv, .agg #[.string s, .int .i64 0, .int .i64 a5, .int .i64 b5, .int .i32 mv]] hm (by kernel_rfl) (by kernel_rfl) (by intro r hr; cases hr) ?_ (by intro r hr; cases hr) (by intro r hr; cases hr) ?_
  · generalize hl : lay _ _ _ = af
    have e2 : af.tmps[2]?.getD undef = .pointer (some ⟨w.heap.size, 0, none⟩) := by rw [← hl]; kernel_rfl
    have e78 : af.tmps[78]?.getD undef = .pointer (some ⟨w.heap.size, 0, none⟩) := by rw [← hl]; kernel_rfl
    have e6 : af.tmps[6]?.getD undef = .int .i64 a5 := by rw [← hl]; kernel_rfl
    have e7 : af.tmps[7]?.getD undef = .int .i64 b5 := by rw [← hl]; kernel_rfl
    have e9 : af.tmps[9]?.getD undef = .int .u32 jv := by rw [← hl]; kernel_rfl
    have e82 : af.tmps[82]?.getD undef = .int .u32 jv := by rw [← hl]; kernel_rfl
    have e79 : af.tmps[79]?.getD undef = .string s := by rw [← hl]; kernel_rfl
    have e80 : af.tmps[80]?.getD undef = .int .i64 a5 := by rw [← hl]; kernel_rfl
    have e81 : af.tmps[81]?.getD undef = .int .i64 b5 := by rw [← hl]; kernel_rfl
    have e83 : af.tmps[83]?.getD undef = .int .i32 mv := by rw [← hl]; kernel_rfl
    clear hl
    refine And.intro (fun w' hw => ?_) ?_
    · exact quiet_run (by simp [execOp, go_sem, e2])
    refine And.intro (fun w' hw => ?_) ?_
    · have c0 := hw.cell (p := ⟨w.heap.size, 0, none⟩) zk'
      rw [kc0] at c0
      exact quiet_run (by simp [execOp, go_sem, e78, c0])
    refine And.intro (fun w' hw => ?_) ?_
    · exact quiet_run (by simp [execOp, go_sem, e6])
    refine And.intro (fun w' hw => ?_) ?_
    · exact quiet_run (by simp [execOp, go_sem, e7])
    refine And.intro (fun w' hw => ?_) ?_
    · exact quiet_run (by simp [execOp, go_sem, e9])
    refine And.intro (fun w' hw => ?_) ?_
    · exact quiet_enter 38 #[.int .u32 jv, .int .i64 13] (by simp [go_sem, e82]) ((CS.out _).mono (by rintro e w'' ⟨rfl, rfl⟩; exact ⟨rfl, Below.refl _ _⟩))
    refine And.intro (fun w' hw => ?_) ?_
    · exact quiet_run (by simp [execOp, go_sem, e79, e80, e81, e83])
    exact True.intro
  · intro β3 W3 hW3 _ _
    simp [putAl, lay, Act.put]
    rw [← hW3.cell (p := ⟨rb, 0, none⟩) zr'] at rc0
    rw [← hW3.frozen (p := ⟨rb, 0, none⟩) zr'] at rf0
    rw [← hW3.cell (p := ⟨rb, 1, none⟩) zr'] at rc1
    rw [← hW3.frozen (p := ⟨rb, 1, none⟩) zr'] at rf1
    rw [← hW3.cell (p := ⟨rb, 2, none⟩) zr'] at rc2
    rw [← hW3.frozen (p := ⟨rb, 2, none⟩) zr'] at rf2
    rw [← hW3.cell (p := ⟨rb, 3, none⟩) zr'] at rc3
    rw [← hW3.frozen (p := ⟨rb, 3, none⟩) zr'] at rf3
    rw [← hW3.cell (p := ⟨rb, 4, none⟩) zr'] at rc4
    rw [← hW3.frozen (p := ⟨rb, 4, none⟩) zr'] at rf4
    have HB3 : Hid (Below w.heap.size w W3) := below_step HBW.out hW3
    clear hW3
    go_wp2
    obtain ⟨Y, hY, y0, y1, y2, y3, y4, bY⟩ := five_at (v0 := .string s) (v1 := .int .i64 0) (v2 := .int .i64 a5) (v3 := .int .i64 b5) (v4 := .int .i32 mv) rc0 rc1 rc2 rc3 rc4 HB3.out hrb
    rw [← hY]
    clear hY
    refine bodyPost_ret (v := .agg #[.string s, .int .i64 0, .int .i64 a5, .int .i64 b5, .int .i32 mv]) ?_ rfl ?_
    · simp [results, Try.results25, go_sem, y0, y1, y2, y3, y4]
    · refine ⟨?_, bY⟩
      rw [show decM 4 x = mv from HM.out]
set_option maxRecDepth 100000 in
set_option maxHeartbeats 2000000 in
theorem dec_5 (s : ByteArray) (la o f g x : Int) (hla : la = 5) (hx : U32 x) (w : World) :
    Calls Try.prog 25 #[.agg #[.string s, .int .i64 la, .int .u32 o, .int .u32 f, .int .u32 g], .int .u32 x] w fun e w' => e = .returned (.agg #[.string s, .int .i64 (bitsV x 7 5), .int .i64 0, .int .i64 0, .int .i32 (decM 5 x)]) ∧ Below w.heap.size w w' := by
  have hm : Try.prog.follows .mixedOrders = true := by kernel_rfl
  have CD : Hid _ := wbits_in x 7 5 hx (by omega) (by omega) (by omega) (by omega)
  have CA : Hid _ := wbits_in x 15 5 hx (by omega) (by omega) (by omega) (by omega)
  have CB : Hid _ := wbits_in x 20 5 hx (by omega) (by omega) (by omega) (by omega)
  obtain ⟨hd0, hd1⟩ := wbits5 x 7 5 hx (by omega) (by omega) (by omega) (by omega) (by omega)
  obtain ⟨ha0, ha1⟩ := wbits5 x 15 5 hx (by omega) (by omega) (by omega) (by omega) (by omega)
  obtain ⟨hb0, hb1⟩ := wbits5 x 20 5 hx (by omega) (by omega) (by omega) (by omega) (by omega)
  have C91 : Hid _ := wbits_in x 12 20 hx (by omega) (by omega) (by omega) (by omega)
  have U91 := bitsV_u32 x 12 20
  have HM : Hid (decM 5 x = wrap32 (bitsV x 12 20)) := by simp [decM, Hid]
  have hcv : IntKind.i32.wrap (bitsV x 12 20) = wrap32 (bitsV x 12 20) := wrap_i32x _
  generalize wrap32 (bitsV x 12 20) = mv at *
  generalize bitsV x 12 20 = y91 at *
  clear U91
  generalize bitsV x 7 5 = d5 at *
  generalize bitsV x 15 5 = a5 at *
  generalize bitsV x 20 5 = b5 at *
  clear hx
  subst hla
  go_enter Try.func25, Try.ntmps25
  go_wp2_with fail
  refine (CD.out _).mono ?_
  rintro e w' ⟨rfl, rfl⟩
  go_wp2_with fail
  refine (CA.out _).mono ?_
  rintro e w' ⟨rfl, rfl⟩
  go_wp2_with fail
  refine (CB.out _).mono ?_
  rintro e w' ⟨rfl, rfl⟩
  have k1 : ((w.alloc (.cells #[.string s, .int .i64 5, .int .u32 o, .int .u32 f, .int .u32 g] 51)).alloc (.cells #[.string ⟨#[]⟩, .int .i64 0, .int .i64 0, .int .i64 0, .int .i32 0] 23)).heap[w.heap.size]? = some (.cells #[.string s, .int .i64 5, .int .u32 o, .int .u32 f, .int .u32 g] 51) := by
    rw [Below.heap_alloc _ _ _ (by simp), alloc_at]
  have r1 : ((w.alloc (.cells #[.string s, .int .i64 5, .int .u32 o, .int .u32 f, .int .u32 g] 51)).alloc (.cells #[.string ⟨#[]⟩, .int .i64 0, .int .i64 0, .int .i64 0, .int .i32 0] 23)).heap[w.heap.size + 1]? = some (.cells #[.string ⟨#[]⟩, .int .i64 0, .int .i64 0, .int .i64 0, .int .i32 0] 23) := by
    have := alloc_at (w.alloc (.cells #[.string s, .int .i64 5, .int .u32 o, .int .u32 f, .int .u32 g] 51)) (.cells #[.string ⟨#[]⟩, .int .i64 0, .int .i64 0, .int .i64 0, .int .i32 0] 23)
    rwa [World.size_alloc] at this
  have HB : Hid (Below w.heap.size w ((w.alloc (.cells #[.string s, .int .i64 5, .int .u32 o, .int .u32 f, .int .u32 g] 51)).alloc (.cells #[.string ⟨#[]⟩, .int .i64 0, .int .i64 0, .int .i64 0, .int .i32 0] 23))) := box2
  have hrb : w.heap.size ≤ w.heap.size + 1 := by omega
  generalize (w.alloc (.cells #[.string s, .int .i64 5, .int .u32 o, .int .u32 f, .int .u32 g] 51)).alloc (.cells #[.string ⟨#[]⟩, .int .i64 0, .int .i64 0, .int .i64 0, .int .i32 0] 23) = V at *
  generalize hrb' : w.heap.size + 1 = rb at *
  obtain ⟨kc, _, zk⟩ := cells_of k1
  obtain ⟨rc, rf, zr⟩ := cells_of r1
  have kc0 := kc 0 (.string s) rfl
  have kc1 := kc 1 (.int .i64 5) rfl
  have rc0 := rc 0 (.string ⟨#[]⟩) rfl
  have rc1 := rc 1 (.int .i64 0) rfl
  have rc2 := rc 2 (.int .i64 0) rfl
  have rc3 := rc 3 (.int .i64 0) rfl
  have rc4 := rc 4 (.int .i32 0) rfl
  have rf0 := rf 0
  have rf1 := rf 1
  have rf2 := rf 2
  have rf3 := rf 3
  have rf4 := rf 4
  clear kc rc rf k1 r1 hrb'
  go_wp2_with fail
  refine wp_region_mix_tail 7 [] [.pointer (some ⟨w.heap.size, 0, none⟩), .string s, .int .i64 d5, .int .u32 x, .int .u32 y91, .int .i32 mv, .agg #[.string s, .int .i64 d5, .int .i64 0, .int .i64 0, .int .i32 mv]] hm (by kernel_rfl) (by kernel_rfl) (by intro r hr; cases hr) ?_ (by intro r hr; cases hr) (by intro r hr; cases hr) ?_
  · generalize hl : lay _ _ _ = af
    have e2 : af.tmps[2]?.getD undef = .pointer (some ⟨w.heap.size, 0, none⟩) := by rw [← hl]; kernel_rfl
    have e87 : af.tmps[87]?.getD undef = .pointer (some ⟨w.heap.size, 0, none⟩) := by rw [← hl]; kernel_rfl
    have e5 : af.tmps[5]?.getD undef = .int .i64 d5 := by rw [← hl]; kernel_rfl
    have e1 : af.tmps[1]?.getD undef = .int .u32 x := by rw [← hl]; kernel_rfl
    have e90 : af.tmps[90]?.getD undef = .int .u32 x := by rw [← hl]; kernel_rfl
    have e91 : af.tmps[91]?.getD undef = .int .u32 y91 := by rw [← hl]; kernel_rfl
    have e88 : af.tmps[88]?.getD undef = .string s := by rw [← hl]; kernel_rfl
    have e89 : af.tmps[89]?.getD undef = .int .i64 d5 := by rw [← hl]; kernel_rfl
    have e92 : af.tmps[92]?.getD undef = .int .i32 mv := by rw [← hl]; kernel_rfl
    clear hl
    refine And.intro (fun w' hw => ?_) ?_
    · exact quiet_run (by simp [execOp, go_sem, e2])
    refine And.intro (fun w' hw => ?_) ?_
    · have c0 := hw.cell (p := ⟨w.heap.size, 0, none⟩) zk
      rw [kc0] at c0
      exact quiet_run (by simp [execOp, go_sem, e87, c0])
    refine And.intro (fun w' hw => ?_) ?_
    · exact quiet_run (by simp [execOp, go_sem, e5])
    refine And.intro (fun w' hw => ?_) ?_
    · exact quiet_run (by simp [execOp, go_sem, e1])
    refine And.intro (fun w' hw => ?_) ?_
    · exact quiet_enter 37 #[.int .u32 x, .int .i64 12, .int .i64 20] (by simp [go_sem, e90]) ((C91.out _).mono (by rintro e w'' ⟨rfl, rfl⟩; exact ⟨rfl, Below.refl _ _⟩))
    refine And.intro (fun w' hw => ?_) ?_
    · exact quiet_run (by simp [execOp, go_sem, e91, hcv])
    refine And.intro (fun w' hw => ?_) ?_
    · exact quiet_run (by simp [execOp, go_sem, e88, e89, e92])
    exact True.intro
  · intro β3 W3 hW3 _ _
    simp [putAl, lay, Act.put]
    rw [← hW3.cell (p := ⟨rb, 0, none⟩) zr] at rc0
    rw [← hW3.frozen (p := ⟨rb, 0, none⟩) zr] at rf0
    rw [← hW3.cell (p := ⟨rb, 1, none⟩) zr] at rc1
    rw [← hW3.frozen (p := ⟨rb, 1, none⟩) zr] at rf1
    rw [← hW3.cell (p := ⟨rb, 2, none⟩) zr] at rc2
    rw [← hW3.frozen (p := ⟨rb, 2, none⟩) zr] at rf2
    rw [← hW3.cell (p := ⟨rb, 3, none⟩) zr] at rc3
    rw [← hW3.frozen (p := ⟨rb, 3, none⟩) zr] at rf3
    rw [← hW3.cell (p := ⟨rb, 4, none⟩) zr] at rc4
    rw [← hW3.frozen (p := ⟨rb, 4, none⟩) zr] at rf4
    have HB3 : Hid (Below w.heap.size w W3) := below_step HB.out hW3
    clear hW3
    go_wp2
    obtain ⟨Y, hY, y0, y1, y2, y3, y4, bY⟩ := five_at (v0 := .string s) (v1 := .int .i64 d5) (v2 := .int .i64 0) (v3 := .int .i64 0) (v4 := .int .i32 mv) rc0 rc1 rc2 rc3 rc4 HB3.out hrb
    rw [← hY]
    clear hY
    refine bodyPost_ret (v := .agg #[.string s, .int .i64 d5, .int .i64 0, .int .i64 0, .int .i32 mv]) ?_ rfl ?_
    · simp [results, Try.results25, go_sem, y0, y1, y2, y3, y4]
    · refine ⟨?_, bY⟩
      rw [show decM 5 x = mv from HM.out]
set_option maxRecDepth 100000 in
set_option maxHeartbeats 2000000 in
theorem dec_6 (s : ByteArray) (la o f g x : Int) (hla : la = 6) (hx : U32 x) (w : World) :
    Calls Try.prog 25 #[.agg #[.string s, .int .i64 la, .int .u32 o, .int .u32 f, .int .u32 g], .int .u32 x] w fun e w' => e = .returned (.agg #[.string s, .int .i64 (bitsV x 7 5), .int .i64 0, .int .i64 0, .int .i32 (decM 6 x)]) ∧ Below w.heap.size w w' := by
  have hm : Try.prog.follows .mixedOrders = true := by kernel_rfl
  have CD : Hid _ := wbits_in x 7 5 hx (by omega) (by omega) (by omega) (by omega)
  have CA : Hid _ := wbits_in x 15 5 hx (by omega) (by omega) (by omega) (by omega)
  have CB : Hid _ := wbits_in x 20 5 hx (by omega) (by omega) (by omega) (by omega)
  obtain ⟨hd0, hd1⟩ := wbits5 x 7 5 hx (by omega) (by omega) (by omega) (by omega) (by omega)
  obtain ⟨ha0, ha1⟩ := wbits5 x 15 5 hx (by omega) (by omega) (by omega) (by omega) (by omega)
  obtain ⟨hb0, hb1⟩ := wbits5 x 20 5 hx (by omega) (by omega) (by omega) (by omega) (by omega)
  have C97 : Hid _ := ccutB x 31 1 hx (by omega) (by omega) (by omega) (by omega)
  have C99 : Hid _ := ccutB x 12 8 hx (by omega) (by omega) (by omega) (by omega)
  have C101 : Hid _ := ccutB x 20 1 hx (by omega) (by omega) (by omega) (by omega)
  have C103 : Hid _ := ccutB x 21 10 hx (by omega) (by omega) (by omega) (by omega)
  have C104 : Hid _ := ccutB 0 0 1 ⟨by omega, by omega⟩ (by omega) (by omega) (by omega) (by omega)
  have CJ : Hid _ := cjoin_new [(bitsV x 31 1, 1), (bitsV x 12 8, 8), (bitsV x 20 1, 1), (bitsV x 21 10, 10), (bitsV 0 0 1, 1)] 5 rfl (by omega) (by simp)
  have UJ : U32 (joinV [(bitsV x 31 1, 1), (bitsV x 12 8, 8), (bitsV x 20 1, 1), (bitsV x 21 10, 10), (bitsV 0 0 1, 1)] 0) := joinV_u32 _ _ ⟨by omega, by omega⟩
  have CS : Hid _ := csigned (joinV [(bitsV x 31 1, 1), (bitsV x 12 8, 8), (bitsV x 20 1, 1), (bitsV x 21 10, 10), (bitsV 0 0 1, 1)] 0) 21 UJ
  clear UJ
  have HM : Hid (decM 6 x = wrap32 (sextV (joinV [(bitsV x 31 1, 1), (bitsV x 12 8, 8), (bitsV x 20 1, 1), (bitsV x 21 10, 10), (bitsV 0 0 1, 1)] 0) 21)) := by simp [decM, Hid]
  generalize wrap32 (sextV (joinV [(bitsV x 31 1, 1), (bitsV x 12 8, 8), (bitsV x 20 1, 1), (bitsV x 21 10, 10), (bitsV 0 0 1, 1)] 0) 21) = mv at *
  generalize hJ : joinV [(bitsV x 31 1, 1), (bitsV x 12 8, 8), (bitsV x 20 1, 1), (bitsV x 21 10, 10), (bitsV 0 0 1, 1)] 0 = jv at *
  generalize bitsV x 31 1 = y97 at *
  generalize bitsV x 12 8 = y99 at *
  generalize bitsV x 20 1 = y101 at *
  generalize bitsV x 21 10 = y103 at *
  generalize bitsV 0 0 1 = y104 at *
  clear hJ
  generalize bitsV x 7 5 = d5 at *
  generalize bitsV x 15 5 = a5 at *
  generalize bitsV x 20 5 = b5 at *
  clear hx
  subst hla
  go_enter Try.func25, Try.ntmps25
  go_wp2_with fail
  refine (CD.out _).mono ?_
  rintro e w' ⟨rfl, rfl⟩
  go_wp2_with fail
  refine (CA.out _).mono ?_
  rintro e w' ⟨rfl, rfl⟩
  go_wp2_with fail
  refine (CB.out _).mono ?_
  rintro e w' ⟨rfl, rfl⟩
  have k1 : ((w.alloc (.cells #[.string s, .int .i64 6, .int .u32 o, .int .u32 f, .int .u32 g] 51)).alloc (.cells #[.string ⟨#[]⟩, .int .i64 0, .int .i64 0, .int .i64 0, .int .i32 0] 23)).heap[w.heap.size]? = some (.cells #[.string s, .int .i64 6, .int .u32 o, .int .u32 f, .int .u32 g] 51) := by
    rw [Below.heap_alloc _ _ _ (by simp), alloc_at]
  have r1 : ((w.alloc (.cells #[.string s, .int .i64 6, .int .u32 o, .int .u32 f, .int .u32 g] 51)).alloc (.cells #[.string ⟨#[]⟩, .int .i64 0, .int .i64 0, .int .i64 0, .int .i32 0] 23)).heap[w.heap.size + 1]? = some (.cells #[.string ⟨#[]⟩, .int .i64 0, .int .i64 0, .int .i64 0, .int .i32 0] 23) := by
    have := alloc_at (w.alloc (.cells #[.string s, .int .i64 6, .int .u32 o, .int .u32 f, .int .u32 g] 51)) (.cells #[.string ⟨#[]⟩, .int .i64 0, .int .i64 0, .int .i64 0, .int .i32 0] 23)
    rwa [World.size_alloc] at this
  have HB : Hid (Below w.heap.size w ((w.alloc (.cells #[.string s, .int .i64 6, .int .u32 o, .int .u32 f, .int .u32 g] 51)).alloc (.cells #[.string ⟨#[]⟩, .int .i64 0, .int .i64 0, .int .i64 0, .int .i32 0] 23))) := box2
  have hrb : w.heap.size ≤ w.heap.size + 1 := by omega
  generalize (w.alloc (.cells #[.string s, .int .i64 6, .int .u32 o, .int .u32 f, .int .u32 g] 51)).alloc (.cells #[.string ⟨#[]⟩, .int .i64 0, .int .i64 0, .int .i64 0, .int .i32 0] 23) = V at *
  generalize hrb' : w.heap.size + 1 = rb at *
  obtain ⟨kc, _, zk⟩ := cells_of k1
  obtain ⟨rc, rf, zr⟩ := cells_of r1
  have kc0 := kc 0 (.string s) rfl
  have kc1 := kc 1 (.int .i64 6) rfl
  have rc0 := rc 0 (.string ⟨#[]⟩) rfl
  have rc1 := rc 1 (.int .i64 0) rfl
  have rc2 := rc 2 (.int .i64 0) rfl
  have rc3 := rc 3 (.int .i64 0) rfl
  have rc4 := rc 4 (.int .i32 0) rfl
  have rf0 := rf 0
  have rf1 := rf 1
  have rf2 := rf 2
  have rf3 := rf 3
  have rf4 := rf 4
  clear kc rc rf k1 r1 hrb'
  go_wp2_with fail
  refine (C97.out _).mono ?_
  rintro e w97 ⟨rfl, hb97⟩
  have H97 : Hid (Below V.heap.size V w97) := below_step (Below.refl V.heap.size V) hb97
  clear hb97
  go_wp2_with fail
  refine (C99.out _).mono ?_
  rintro e w99 ⟨rfl, hb99⟩
  have H99 : Hid (Below V.heap.size V w99) := below_step H97.out hb99
  clear hb99
  go_wp2_with fail
  refine (C101.out _).mono ?_
  rintro e w101 ⟨rfl, hb101⟩
  have H101 : Hid (Below V.heap.size V w101) := below_step H99.out hb101
  clear hb101
  go_wp2_with fail
  refine (C103.out _).mono ?_
  rintro e w103 ⟨rfl, hb103⟩
  have H103 : Hid (Below V.heap.size V w103) := below_step H101.out hb103
  clear hb103
  go_wp2_with fail
  refine (C104.out _).mono ?_
  rintro e w104 ⟨rfl, hb104⟩
  have H104 : Hid (Below V.heap.size V w104) := below_step H103.out hb104
  clear hb104
  go_wp2_with fail
  refine (CJ.out _).mono ?_
  rintro e W ⟨rfl, hbW⟩
  have HW : Hid (Below V.heap.size V W) := below_step H104.out hbW
  have HBW : Hid (Below w.heap.size w W) := below_step HB.out HW.out
  rw [← HW.out.cell (p := ⟨rb, 0, none⟩) zr] at rc0
  rw [← HW.out.frozen (p := ⟨rb, 0, none⟩) zr] at rf0
  rw [← HW.out.cell (p := ⟨rb, 1, none⟩) zr] at rc1
  rw [← HW.out.frozen (p := ⟨rb, 1, none⟩) zr] at rf1
  rw [← HW.out.cell (p := ⟨rb, 2, none⟩) zr] at rc2
  rw [← HW.out.frozen (p := ⟨rb, 2, none⟩) zr] at rf2
  rw [← HW.out.cell (p := ⟨rb, 3, none⟩) zr] at rc3
  rw [← HW.out.frozen (p := ⟨rb, 3, none⟩) zr] at rf3
  rw [← HW.out.cell (p := ⟨rb, 4, none⟩) zr] at rc4
  rw [← HW.out.frozen (p := ⟨rb, 4, none⟩) zr] at rf4
  rw [← HW.out.cell (p := ⟨w.heap.size, 0, none⟩) zk] at kc0
  have zr' := Nat.lt_of_lt_of_le zr HW.out.size
  have zk' := Nat.lt_of_lt_of_le zk HW.out.size
  clear zr zk hbW
  go_wp2_with fail
  refine wp_region_mix_tail 6 [] [.pointer (some ⟨w.heap.size, 0, none⟩), .string s, .int .i64 d5, .int .u32 jv, .int .i32 mv, .agg #[.string s, .int .i64 d5, .int .i64 0, .int .i64 0, .int .i32 mv]] hm (by kernel_rfl) (by kernel_rfl) (by intro r hr; cases hr) ?_ (by intro r hr; cases hr) (by intro r hr; cases hr) ?_
  · generalize hl : lay _ _ _ = af
    have e2 : af.tmps[2]?.getD undef = .pointer (some ⟨w.heap.size, 0, none⟩) := by rw [← hl]; kernel_rfl
    have e107 : af.tmps[107]?.getD undef = .pointer (some ⟨w.heap.size, 0, none⟩) := by rw [← hl]; kernel_rfl
    have e5 : af.tmps[5]?.getD undef = .int .i64 d5 := by rw [← hl]; kernel_rfl
    have e10 : af.tmps[10]?.getD undef = .int .u32 jv := by rw [← hl]; kernel_rfl
    have e110 : af.tmps[110]?.getD undef = .int .u32 jv := by rw [← hl]; kernel_rfl
    have e108 : af.tmps[108]?.getD undef = .string s := by rw [← hl]; kernel_rfl
    have e109 : af.tmps[109]?.getD undef = .int .i64 d5 := by rw [← hl]; kernel_rfl
    have e111 : af.tmps[111]?.getD undef = .int .i32 mv := by rw [← hl]; kernel_rfl
    clear hl
    refine And.intro (fun w' hw => ?_) ?_
    · exact quiet_run (by simp [execOp, go_sem, e2])
    refine And.intro (fun w' hw => ?_) ?_
    · have c0 := hw.cell (p := ⟨w.heap.size, 0, none⟩) zk'
      rw [kc0] at c0
      exact quiet_run (by simp [execOp, go_sem, e107, c0])
    refine And.intro (fun w' hw => ?_) ?_
    · exact quiet_run (by simp [execOp, go_sem, e5])
    refine And.intro (fun w' hw => ?_) ?_
    · exact quiet_run (by simp [execOp, go_sem, e10])
    refine And.intro (fun w' hw => ?_) ?_
    · exact quiet_enter 38 #[.int .u32 jv, .int .i64 21] (by simp [go_sem, e110]) ((CS.out _).mono (by rintro e w'' ⟨rfl, rfl⟩; exact ⟨rfl, Below.refl _ _⟩))
    refine And.intro (fun w' hw => ?_) ?_
    · exact quiet_run (by simp [execOp, go_sem, e108, e109, e111])
    exact True.intro
  · intro β3 W3 hW3 _ _
    simp [putAl, lay, Act.put]
    rw [← hW3.cell (p := ⟨rb, 0, none⟩) zr'] at rc0
    rw [← hW3.frozen (p := ⟨rb, 0, none⟩) zr'] at rf0
    rw [← hW3.cell (p := ⟨rb, 1, none⟩) zr'] at rc1
    rw [← hW3.frozen (p := ⟨rb, 1, none⟩) zr'] at rf1
    rw [← hW3.cell (p := ⟨rb, 2, none⟩) zr'] at rc2
    rw [← hW3.frozen (p := ⟨rb, 2, none⟩) zr'] at rf2
    rw [← hW3.cell (p := ⟨rb, 3, none⟩) zr'] at rc3
    rw [← hW3.frozen (p := ⟨rb, 3, none⟩) zr'] at rf3
    rw [← hW3.cell (p := ⟨rb, 4, none⟩) zr'] at rc4
    rw [← hW3.frozen (p := ⟨rb, 4, none⟩) zr'] at rf4
    have HB3 : Hid (Below w.heap.size w W3) := below_step HBW.out hW3
    clear hW3
    go_wp2
    obtain ⟨Y, hY, y0, y1, y2, y3, y4, bY⟩ := five_at (v0 := .string s) (v1 := .int .i64 d5) (v2 := .int .i64 0) (v3 := .int .i64 0) (v4 := .int .i32 mv) rc0 rc1 rc2 rc3 rc4 HB3.out hrb
    rw [← hY]
    clear hY
    refine bodyPost_ret (v := .agg #[.string s, .int .i64 d5, .int .i64 0, .int .i64 0, .int .i32 mv]) ?_ rfl ?_
    · simp [results, Try.results25, go_sem, y0, y1, y2, y3, y4]
    · refine ⟨?_, bY⟩
      rw [show decM 6 x = mv from HM.out]
set_option maxRecDepth 100000 in
set_option maxHeartbeats 2000000 in
theorem dec_7 (s : ByteArray) (la o f g x : Int) (hla : la = 7) (hx : U32 x) (w : World) :
    Calls Try.prog 25 #[.agg #[.string s, .int .i64 la, .int .u32 o, .int .u32 f, .int .u32 g], .int .u32 x] w fun e w' => e = .returned (.agg #[.string s, .int .i64 (bitsV x 7 5), .int .i64 (bitsV x 15 5), .int .i64 0, .int .i32 (decM 7 x)]) ∧ Below w.heap.size w w' := by
  have hm : Try.prog.follows .mixedOrders = true := by kernel_rfl
  have CD : Hid _ := wbits_in x 7 5 hx (by omega) (by omega) (by omega) (by omega)
  have CA : Hid _ := wbits_in x 15 5 hx (by omega) (by omega) (by omega) (by omega)
  have CB : Hid _ := wbits_in x 20 5 hx (by omega) (by omega) (by omega) (by omega)
  obtain ⟨hd0, hd1⟩ := wbits5 x 7 5 hx (by omega) (by omega) (by omega) (by omega) (by omega)
  obtain ⟨ha0, ha1⟩ := wbits5 x 15 5 hx (by omega) (by omega) (by omega) (by omega) (by omega)
  obtain ⟨hb0, hb1⟩ := wbits5 x 20 5 hx (by omega) (by omega) (by omega) (by omega) (by omega)
  have C120 : Hid _ := wbits_in x 20 12 hx (by omega) (by omega) (by omega) (by omega)
  have U120 := bitsV_u32 x 20 12
  have HM : Hid (decM 7 x = wrap32 (bitsV x 20 12)) := by simp [decM, Hid]
  have hcv : IntKind.i32.wrap (bitsV x 20 12) = wrap32 (bitsV x 20 12) := wrap_i32x _
  generalize wrap32 (bitsV x 20 12) = mv at *
  generalize bitsV x 20 12 = y120 at *
  clear U120
  generalize bitsV x 7 5 = d5 at *
  generalize bitsV x 15 5 = a5 at *
  generalize bitsV x 20 5 = b5 at *
  clear hx
  subst hla
  go_enter Try.func25, Try.ntmps25
  go_wp2_with fail
  refine (CD.out _).mono ?_
  rintro e w' ⟨rfl, rfl⟩
  go_wp2_with fail
  refine (CA.out _).mono ?_
  rintro e w' ⟨rfl, rfl⟩
  go_wp2_with fail
  refine (CB.out _).mono ?_
  rintro e w' ⟨rfl, rfl⟩
  have k1 : ((w.alloc (.cells #[.string s, .int .i64 7, .int .u32 o, .int .u32 f, .int .u32 g] 51)).alloc (.cells #[.string ⟨#[]⟩, .int .i64 0, .int .i64 0, .int .i64 0, .int .i32 0] 23)).heap[w.heap.size]? = some (.cells #[.string s, .int .i64 7, .int .u32 o, .int .u32 f, .int .u32 g] 51) := by
    rw [Below.heap_alloc _ _ _ (by simp), alloc_at]
  have r1 : ((w.alloc (.cells #[.string s, .int .i64 7, .int .u32 o, .int .u32 f, .int .u32 g] 51)).alloc (.cells #[.string ⟨#[]⟩, .int .i64 0, .int .i64 0, .int .i64 0, .int .i32 0] 23)).heap[w.heap.size + 1]? = some (.cells #[.string ⟨#[]⟩, .int .i64 0, .int .i64 0, .int .i64 0, .int .i32 0] 23) := by
    have := alloc_at (w.alloc (.cells #[.string s, .int .i64 7, .int .u32 o, .int .u32 f, .int .u32 g] 51)) (.cells #[.string ⟨#[]⟩, .int .i64 0, .int .i64 0, .int .i64 0, .int .i32 0] 23)
    rwa [World.size_alloc] at this
  have HB : Hid (Below w.heap.size w ((w.alloc (.cells #[.string s, .int .i64 7, .int .u32 o, .int .u32 f, .int .u32 g] 51)).alloc (.cells #[.string ⟨#[]⟩, .int .i64 0, .int .i64 0, .int .i64 0, .int .i32 0] 23))) := box2
  have hrb : w.heap.size ≤ w.heap.size + 1 := by omega
  generalize (w.alloc (.cells #[.string s, .int .i64 7, .int .u32 o, .int .u32 f, .int .u32 g] 51)).alloc (.cells #[.string ⟨#[]⟩, .int .i64 0, .int .i64 0, .int .i64 0, .int .i32 0] 23) = V at *
  generalize hrb' : w.heap.size + 1 = rb at *
  obtain ⟨kc, _, zk⟩ := cells_of k1
  obtain ⟨rc, rf, zr⟩ := cells_of r1
  have kc0 := kc 0 (.string s) rfl
  have kc1 := kc 1 (.int .i64 7) rfl
  have rc0 := rc 0 (.string ⟨#[]⟩) rfl
  have rc1 := rc 1 (.int .i64 0) rfl
  have rc2 := rc 2 (.int .i64 0) rfl
  have rc3 := rc 3 (.int .i64 0) rfl
  have rc4 := rc 4 (.int .i32 0) rfl
  have rf0 := rf 0
  have rf1 := rf 1
  have rf2 := rf 2
  have rf3 := rf 3
  have rf4 := rf 4
  clear kc rc rf k1 r1 hrb'
  go_wp2_with fail
  refine wp_region_mix_tail 8 [] [.pointer (some ⟨w.heap.size, 0, none⟩), .string s, .int .i64 d5, .int .i64 a5, .int .u32 x, .int .u32 y120, .int .i32 mv, .agg #[.string s, .int .i64 d5, .int .i64 a5, .int .i64 0, .int .i32 mv]] hm (by kernel_rfl) (by kernel_rfl) (by intro r hr; cases hr) ?_ (by intro r hr; cases hr) (by intro r hr; cases hr) ?_
  · generalize hl : lay _ _ _ = af
    have e2 : af.tmps[2]?.getD undef = .pointer (some ⟨w.heap.size, 0, none⟩) := by rw [← hl]; kernel_rfl
    have e115 : af.tmps[115]?.getD undef = .pointer (some ⟨w.heap.size, 0, none⟩) := by rw [← hl]; kernel_rfl
    have e5 : af.tmps[5]?.getD undef = .int .i64 d5 := by rw [← hl]; kernel_rfl
    have e6 : af.tmps[6]?.getD undef = .int .i64 a5 := by rw [← hl]; kernel_rfl
    have e1 : af.tmps[1]?.getD undef = .int .u32 x := by rw [← hl]; kernel_rfl
    have e119 : af.tmps[119]?.getD undef = .int .u32 x := by rw [← hl]; kernel_rfl
    have e120 : af.tmps[120]?.getD undef = .int .u32 y120 := by rw [← hl]; kernel_rfl
    have e116 : af.tmps[116]?.getD undef = .string s := by rw [← hl]; kernel_rfl
    have e117 : af.tmps[117]?.getD undef = .int .i64 d5 := by rw [← hl]; kernel_rfl
    have e118 : af.tmps[118]?.getD undef = .int .i64 a5 := by rw [← hl]; kernel_rfl
    have e121 : af.tmps[121]?.getD undef = .int .i32 mv := by rw [← hl]; kernel_rfl
    clear hl
    refine And.intro (fun w' hw => ?_) ?_
    · exact quiet_run (by simp [execOp, go_sem, e2])
    refine And.intro (fun w' hw => ?_) ?_
    · have c0 := hw.cell (p := ⟨w.heap.size, 0, none⟩) zk
      rw [kc0] at c0
      exact quiet_run (by simp [execOp, go_sem, e115, c0])
    refine And.intro (fun w' hw => ?_) ?_
    · exact quiet_run (by simp [execOp, go_sem, e5])
    refine And.intro (fun w' hw => ?_) ?_
    · exact quiet_run (by simp [execOp, go_sem, e6])
    refine And.intro (fun w' hw => ?_) ?_
    · exact quiet_run (by simp [execOp, go_sem, e1])
    refine And.intro (fun w' hw => ?_) ?_
    · exact quiet_enter 37 #[.int .u32 x, .int .i64 20, .int .i64 12] (by simp [go_sem, e119]) ((C120.out _).mono (by rintro e w'' ⟨rfl, rfl⟩; exact ⟨rfl, Below.refl _ _⟩))
    refine And.intro (fun w' hw => ?_) ?_
    · exact quiet_run (by simp [execOp, go_sem, e120, hcv])
    refine And.intro (fun w' hw => ?_) ?_
    · exact quiet_run (by simp [execOp, go_sem, e116, e117, e118, e121])
    exact True.intro
  · intro β3 W3 hW3 _ _
    simp [putAl, lay, Act.put]
    rw [← hW3.cell (p := ⟨rb, 0, none⟩) zr] at rc0
    rw [← hW3.frozen (p := ⟨rb, 0, none⟩) zr] at rf0
    rw [← hW3.cell (p := ⟨rb, 1, none⟩) zr] at rc1
    rw [← hW3.frozen (p := ⟨rb, 1, none⟩) zr] at rf1
    rw [← hW3.cell (p := ⟨rb, 2, none⟩) zr] at rc2
    rw [← hW3.frozen (p := ⟨rb, 2, none⟩) zr] at rf2
    rw [← hW3.cell (p := ⟨rb, 3, none⟩) zr] at rc3
    rw [← hW3.frozen (p := ⟨rb, 3, none⟩) zr] at rf3
    rw [← hW3.cell (p := ⟨rb, 4, none⟩) zr] at rc4
    rw [← hW3.frozen (p := ⟨rb, 4, none⟩) zr] at rf4
    have HB3 : Hid (Below w.heap.size w W3) := below_step HB.out hW3
    clear hW3
    go_wp2
    obtain ⟨Y, hY, y0, y1, y2, y3, y4, bY⟩ := five_at (v0 := .string s) (v1 := .int .i64 d5) (v2 := .int .i64 a5) (v3 := .int .i64 0) (v4 := .int .i32 mv) rc0 rc1 rc2 rc3 rc4 HB3.out hrb
    rw [← hY]
    clear hY
    refine bodyPost_ret (v := .agg #[.string s, .int .i64 d5, .int .i64 a5, .int .i64 0, .int .i32 mv]) ?_ rfl ?_
    · simp [results, Try.results25, go_sem, y0, y1, y2, y3, y4]
    · refine ⟨?_, bY⟩
      rw [show decM 7 x = mv from HM.out]
set_option maxRecDepth 100000 in
set_option maxHeartbeats 2000000 in
theorem dec_8 (s : ByteArray) (la o f g x : Int) (hla : la = 8) (hx : U32 x) (w : World) :
    Calls Try.prog 25 #[.agg #[.string s, .int .i64 la, .int .u32 o, .int .u32 f, .int .u32 g], .int .u32 x] w fun e w' => e = .returned (.agg #[.string s, .int .i64 0, .int .i64 0, .int .i64 0, .int .i32 (decM 8 x)]) ∧ Below w.heap.size w w' := by
  have hm : Try.prog.follows .mixedOrders = true := by kernel_rfl
  have CD : Hid _ := wbits_in x 7 5 hx (by omega) (by omega) (by omega) (by omega)
  have CA : Hid _ := wbits_in x 15 5 hx (by omega) (by omega) (by omega) (by omega)
  have CB : Hid _ := wbits_in x 20 5 hx (by omega) (by omega) (by omega) (by omega)
  obtain ⟨hd0, hd1⟩ := wbits5 x 7 5 hx (by omega) (by omega) (by omega) (by omega) (by omega)
  obtain ⟨ha0, ha1⟩ := wbits5 x 15 5 hx (by omega) (by omega) (by omega) (by omega) (by omega)
  obtain ⟨hb0, hb1⟩ := wbits5 x 20 5 hx (by omega) (by omega) (by omega) (by omega) (by omega)
  generalize bitsV x 7 5 = d5 at *
  generalize bitsV x 15 5 = a5 at *
  generalize bitsV x 20 5 = b5 at *
  clear hx
  subst hla
  go_enter Try.func25, Try.ntmps25
  go_wp2_with fail
  refine (CD.out _).mono ?_
  rintro e w' ⟨rfl, rfl⟩
  go_wp2_with fail
  refine (CA.out _).mono ?_
  rintro e w' ⟨rfl, rfl⟩
  go_wp2_with fail
  refine (CB.out _).mono ?_
  rintro e w' ⟨rfl, rfl⟩
  have k1 : ((w.alloc (.cells #[.string s, .int .i64 8, .int .u32 o, .int .u32 f, .int .u32 g] 51)).alloc (.cells #[.string ⟨#[]⟩, .int .i64 0, .int .i64 0, .int .i64 0, .int .i32 0] 23)).heap[w.heap.size]? = some (.cells #[.string s, .int .i64 8, .int .u32 o, .int .u32 f, .int .u32 g] 51) := by
    rw [Below.heap_alloc _ _ _ (by simp), alloc_at]
  have r1 : ((w.alloc (.cells #[.string s, .int .i64 8, .int .u32 o, .int .u32 f, .int .u32 g] 51)).alloc (.cells #[.string ⟨#[]⟩, .int .i64 0, .int .i64 0, .int .i64 0, .int .i32 0] 23)).heap[w.heap.size + 1]? = some (.cells #[.string ⟨#[]⟩, .int .i64 0, .int .i64 0, .int .i64 0, .int .i32 0] 23) := by
    have := alloc_at (w.alloc (.cells #[.string s, .int .i64 8, .int .u32 o, .int .u32 f, .int .u32 g] 51)) (.cells #[.string ⟨#[]⟩, .int .i64 0, .int .i64 0, .int .i64 0, .int .i32 0] 23)
    rwa [World.size_alloc] at this
  have HB : Hid (Below w.heap.size w ((w.alloc (.cells #[.string s, .int .i64 8, .int .u32 o, .int .u32 f, .int .u32 g] 51)).alloc (.cells #[.string ⟨#[]⟩, .int .i64 0, .int .i64 0, .int .i64 0, .int .i32 0] 23))) := box2
  have hrb : w.heap.size ≤ w.heap.size + 1 := by omega
  generalize (w.alloc (.cells #[.string s, .int .i64 8, .int .u32 o, .int .u32 f, .int .u32 g] 51)).alloc (.cells #[.string ⟨#[]⟩, .int .i64 0, .int .i64 0, .int .i64 0, .int .i32 0] 23) = V at *
  generalize hrb' : w.heap.size + 1 = rb at *
  obtain ⟨kc, _, zk⟩ := cells_of k1
  obtain ⟨rc, rf, zr⟩ := cells_of r1
  have kc0 := kc 0 (.string s) rfl
  have kc1 := kc 1 (.int .i64 8) rfl
  have rc0 := rc 0 (.string ⟨#[]⟩) rfl
  have rc1 := rc 1 (.int .i64 0) rfl
  have rc2 := rc 2 (.int .i64 0) rfl
  have rc3 := rc 3 (.int .i64 0) rfl
  have rc4 := rc 4 (.int .i32 0) rfl
  have rf0 := rf 0
  have rf1 := rf 1
  have rf2 := rf 2
  have rf3 := rf 3
  have rf4 := rf 4
  clear kc rc rf k1 r1 hrb'
  go_wp2
  obtain ⟨Y, hY, y0, y1, y2, y3, y4, bY⟩ := five_at (v0 := .string s) (v1 := .int .i64 0) (v2 := .int .i64 0) (v3 := .int .i64 0) (v4 := .int .i32 0) rc0 rc1 rc2 rc3 rc4 HB.out hrb
  rw [← hY]
  clear hY
  refine bodyPost_ret (v := .agg #[.string s, .int .i64 0, .int .i64 0, .int .i64 0, .int .i32 0]) ?_ rfl ?_
  · simp [results, Try.results25, go_sem, y0, y1, y2, y3, y4]
  · refine ⟨?_, bY⟩
    rw [show decM 8 x = 0 from rfl]
end Go.Proofs.Ytbdfaepljgajbaa
