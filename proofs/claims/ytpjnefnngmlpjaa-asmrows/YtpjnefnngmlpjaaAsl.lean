/-
  Package asm: load and loadLong.
-/
import Derived.Test.YtpjnefnngmlpjaaAsk
import Derived.BigQuiet
namespace Go.Proofs.Ytpjnefnngmlpjaa
open Go.RowKit

set_option maxHeartbeats 400000 in
theorem aBits (x lo n : Int) (hx : U32 x) (c1 : 0 ≤ lo) (c2 : lo < 32) (c3 : 1 ≤ n) (c4 : n ≤ 32 - lo) (w : World) :
    Calls Try.prog 98 #[.int .u32 x, .int .i64 lo, .int .i64 n] w fun e w' => e = .returned (.int .u32 (bitsV x lo n)) ∧ w' = w := by
  obtain ⟨h0, h1⟩ := hx
  go_enter Try.func98, Try.ntmps98
  go_wp2
  go_ret
  exact ⟨ret_u32 (by unfold bitsV; rw [if_neg (by omega)]), rfl⟩
/-- The two words that make any number. -/
def longW (rd n : Int) : List Int := [putN ⟨(⟨#[108, 117, 105]⟩ : ByteArray).toList, rd, 0, 0, wrap32 (bitsV ((n - sextV n 12) % 4294967296) 12 20)⟩, putN ⟨(⟨#[97, 100, 100, 105]⟩ : ByteArray).toList, rd, rd, 0, wrap32 (sextV n 12)⟩]
/-- The words that load a number. -/
def loadW (rd n : Int) : List Int := if shortV n then [putN ⟨(⟨#[97, 100, 100, 105]⟩ : ByteArray).toList, rd, 0, 0, wrap32 n⟩] else longW rd n
theorem Low.trans {wb : Nat} {w w1 w2 : World} (h : Low wb w w1) (h' : Low wb w1 w2) : Low wb w w2 := fun B0 w0 hB hb => h' B0 w0 hB (h B0 w0 hB hb)
set_option maxRecDepth 100000 in
set_option maxHeartbeats 2000000 in
theorem aLong {w : World} {wb pb gb B n : Nat} {sf : Nat → Int} {wv sv : Value} {ws : List Int} {ss : List (ByteArray × Int)} (h : WrAt w wb pb gb B n sf wv sv ws ss) (hn : ws.length < 1000000000) (rd y : Int) (hy : U32 y) :
    Calls Try.prog 84 #[.pointer (some ⟨wb, 0, none⟩), .int .i64 rd, .int .u32 y] w fun e w' => e = .returned (.tuple #[]) ∧ ∃ wv', WrAt w' wb pb gb B n sf wv' sv (ws ++ longW rd y) ss ∧ Low wb w w' := by
  have H0 : Hid _ := h
  have HN : Hid (ws.length < 1000000000) := hn
  have C1 : Hid _ := wsext y 12 hy
  obtain ⟨lw, hlw⟩ : ∃ lw, lw = longW rd y := ⟨_, rfl⟩
  rw [← hlw]
  unfold longW at hlw
  have hl : U32 (sextV y 12) := sextV_u32 y 12
  generalize sextV y 12 = l at *
  obtain ⟨d, hd⟩ : ∃ d, d = (y - l) % 4294967296 := ⟨_, rfl⟩
  rw [← hd] at hlw
  have hd' : U32 d := by rw [hd]; constructor <;> omega
  have C2 : Hid _ := aBits d 12 20 hd' (by omega) (by omega) (by omega) (by omega)
  generalize bitsV d 12 20 = hi at *
  have HD : Hid (d = (y - l) % 4294967296) := hd
  have HLW : Hid _ := hlw
  clear h hn hy hl hd' hd hlw
  go_enter Try.func84, Try.ntmps84
  go_wp2_with fail
  refine (C1.out _).mono ?_
  rintro e w1 ⟨rfl, hw1⟩
  rw [hw1]
  clear hw1 w1 C1
  go_wp2_with fail
  rw [← HD.out]
  refine (C2.out _).mono ?_
  rintro e w1 ⟨rfl, hw1⟩
  rw [hw1]
  clear hw1 w1 C2
  go_wp2_with fail
  refine (aPut H0.out (by have := HN.out; omega) _ _ _ _ _).mono ?_
  rintro e w1 ⟨rfl, v1, h1, l1⟩
  have H1 : Hid _ := h1
  have L1 : Hid _ := l1
  clear h1 l1
  go_wp2_with fail
  refine (aPut H1.out (by have := HN.out; simp only [List.length_append, List.length_cons, List.length_nil]; omega) _ _ _ _ _).mono ?_
  rintro e w2 ⟨rfl, v2, h2, l2⟩
  have H2 : Hid _ := h2
  have L2 : Hid _ := l2
  clear h2 l2
  go_wp2
  go_end0
  refine ⟨rfl, v2, ?_, Low.trans L1.out L2.out⟩
  have H3 := H2.out
  rw [List.append_assoc] at H3
  rw [HLW.out]
  exact H3
set_option maxRecDepth 100000 in
set_option maxHeartbeats 2000000 in
theorem aLoad {w : World} {wb pb gb B n : Nat} {sf : Nat → Int} {wv sv : Value} {ws : List Int} {ss : List (ByteArray × Int)} (h : WrAt w wb pb gb B n sf wv sv ws ss) (hn : ws.length < 1000000000) (rd y : Int) (hy : U32 y) :
    Calls Try.prog 83 #[.pointer (some ⟨wb, 0, none⟩), .int .i64 rd, .int .u32 y] w fun e w' => e = .returned (.tuple #[]) ∧ ∃ wv', WrAt w' wb pb gb B n sf wv' sv (ws ++ loadW rd y) ss ∧ Low wb w w' := by
  have H0 : Hid _ := h
  have HN : Hid (ws.length < 1000000000) := hn
  have C1 : Hid _ := aShort y hy
  have C2 : Hid _ := aLong h hn rd y hy
  obtain ⟨lw, hlw⟩ : ∃ lw, lw = loadW rd y := ⟨_, rfl⟩
  rw [← hlw]
  unfold loadW at hlw
  have HLW : Hid _ := hlw
  generalize longW rd y = lg at *
  cases hsh : shortV y with
  | true =>
    rw [hsh] at C1
    have HS : Hid (shortV y = true) := hsh
    clear h hn hy hlw hsh C2
    go_enter Try.func83, Try.ntmps83
    go_wp2_with fail
    refine (C1.out _).mono ?_
    rintro e w1 ⟨rfl, hw1⟩
    rw [hw1]
    clear hw1 w1 C1
    go_wp2_with fail
    refine (aPut H0.out (by have := HN.out; omega) _ _ _ _ _).mono ?_
    rintro e w1 ⟨rfl, v1, h1, l1⟩
    have H1 : Hid _ := h1
    have L1 : Hid _ := l1
    clear h1 l1
    go_wp2
    ((try simp only [Exit.inBlock, Exit.then]); refine bodyPost_ret (results_none rfl _ _ _) rfl ?_)
    refine ⟨rfl, v1, ?_, L1.out⟩
    rw [HLW.out, HS.out]
    exact H1.out
  | false =>
    rw [hsh] at C1
    have HS : Hid (shortV y = false) := hsh
    clear h hn hy hlw hsh
    go_enter Try.func83, Try.ntmps83
    go_wp2_with fail
    refine (C1.out _).mono ?_
    rintro e w1 ⟨rfl, hw1⟩
    rw [hw1]
    clear hw1 w1 C1
    go_wp2_with fail
    refine Calls.mono C2.out ?_
    rintro e w1 ⟨rfl, v1, h1, l1⟩
    have H1 : Hid _ := h1
    have L1 : Hid _ := l1
    clear h1 l1 C2
    go_wp2
    go_end0
    refine ⟨rfl, v1, ?_, L1.out⟩
    rw [HLW.out, HS.out]
    exact H1.out
end Go.Proofs.Ytpjnefnngmlpjaa
