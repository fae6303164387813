/-
  CodeAll: whether any instruction may be, its word, and what any word is, are the document's.
-/
import Derived.Test.YtbdfaepljgajbaaLawb
import Derived.Lib.QuietBelow
namespace Go.Proofs.Ytbdfaepljgajbaa
open Go.RowKit Go.Sort

theorem told_one {x : Int} {s s' : ByteArray} {d d' a a' b b' m m' : Int} {ok ok' : Bool} (h : toldOf x s d a b m ok) (h' : toldOf x s' d' a' b' m' ok') : s = s' ∧ d = d' ∧ a = a' ∧ b = b' ∧ m = m' ∧ ok = ok' := by
  rcases h with ⟨rfl, h⟩ | ⟨rfl, rfl, rfl, rfl, rfl, rfl, h⟩
  · rcases h' with ⟨rfl, h'⟩ | ⟨rfl, _, _, _, _, _, h'⟩
    · rw [h] at h'
      simp only [Option.some.injEq, MIns.mk.injEq] at h'
      exact ⟨bytes_ext h'.1, h'.2.1, h'.2.2.1, h'.2.2.2.1, h'.2.2.2.2, rfl⟩
    · rw [h] at h'; cases h'
  · rcases h' with ⟨rfl, h'⟩ | ⟨rfl, rfl, rfl, rfl, rfl, rfl, _⟩
    · rw [h] at h'; cases h'
    · exact ⟨rfl, rfl, rfl, rfl, rfl, rfl⟩

theorem quiet_same {P : Program} {f : FuncId} {args : Array Value} {V : World} {d : Nat} {os : Array Obj} {v : Value} (h : Calls P f args (grow (redrawn V d) os) fun e w' => e = .returned v ∧ w' = grow (redrawn V d) os) :
    Calls P f args (grow (redrawn V d) os) fun e w'' => e = .returned v ∧ ∃ p : Regrown, w'' = grow (redrawn V p.d) p.os :=
  h.mono fun _ _ ⟨h1, h2⟩ => ⟨h1, ⟨d, os⟩, h2⟩

set_option maxRecDepth 100000 in
set_option maxHeartbeats 8000000 in
theorem codeAll (s : ByteArray) (d a b m x : Int) (hx : U32 x) (w : World) :
    Calls Try.prog 3 #[.agg #[.string s, .int .i64 d, .int .i64 a, .int .i64 b, .int .i32 m], .int .u32 x] w fun e w' => e = .returned (.bool true) ∧ Below w.heap.size w w' := by
  have hm : Try.prog.follows .mixedOrders = true := by kernel_rfl
  have CP : Hid _ := cPut s d a b m
  have RP : Hid _ := rPut s d a b m
  have CM : Hid _ := cMay s d a b m
  have RM : Hid _ := rMay s d a b m
  obtain ⟨s', d', a', b', m', ok, ht, CG0⟩ := cGet x hx
  have CG : Hid _ := CG0
  have RG : Hid _ := rGet x hx
  have HT : Hid _ := ht
  clear CG0 ht hx
  obtain ⟨E2, HE⟩ : ∃ E2, Hid ((if ok then (0 : Int) else 3) = E2) := ⟨_, rfl⟩
  rw [HE.out] at CG
  generalize putN ⟨s.toList, d, a, b, m⟩ = N at *
  generalize putE ⟨s.toList, d, a, b, m⟩ = E at *
  generalize mayV ⟨s.toList, d, a, b, m⟩ = my at *
  go_enter Try.func3, Try.ntmps3
  go_wp2_with fail
  refine (CP.out _).mono ?_
  rintro e w1 ⟨rfl, hb1⟩
  have i1 := kept_block hb1
  have H1 : Hid (Below w.heap.size w w1) := below_first hb1
  obtain ⟨ic, _, iz⟩ := cells_of i1
  have ic0 := ic 0 (.string s) rfl
  have ic1 := ic 1 (.int .i64 d) rfl
  have ic2 := ic 2 (.int .i64 a) rfl
  have ic3 := ic 3 (.int .i64 b) rfl
  have ic4 := ic 4 (.int .i32 m) rfl
  clear hb1 ic
  go_wp2_with fail
  refine (RP.out _).mono ?_
  rintro e w2 ⟨rfl, hb2⟩
  clear ic0 ic1 ic2 ic3 ic4
  have i2 := kept_on (kept_on i1 hb2) ((Below.refl w2.heap.size w2).alloc (Nat.le_refl _) (.cells #[.int .u32 N, .int .i64 E] 29))
  have g2 := alloc_at w2 (.cells #[.int .u32 N, .int .i64 E] 29)
  have H2 : Hid (Below w.heap.size w (w2.alloc (.cells #[.int .u32 N, .int .i64 E] 29))) := (below_step H1.out hb2).alloc (below_step H1.out hb2).size _
  clear i1 hb2 H1
  go_wp2_with fail
  generalize w2.alloc (.cells #[.int .u32 N, .int .i64 E] 29) = V2 at *
  generalize w2.heap.size = gb at *
  refine (CG.out _).mono ?_
  rintro e w3 ⟨rfl, hb3⟩
  have i3 := kept_on (kept_on i2 hb3) ((Below.refl w3.heap.size w3).alloc (Nat.le_refl _) (.cells #[.string s', .int .i64 d', .int .i64 a', .int .i64 b', .int .i32 m'] 23))
  have g3 := kept_on (kept_on g2 hb3) ((Below.refl w3.heap.size w3).alloc (Nat.le_refl _) (.cells #[.string s', .int .i64 d', .int .i64 a', .int .i64 b', .int .i32 m'] 23))
  have t3 := alloc_at w3 (.cells #[.string s', .int .i64 d', .int .i64 a', .int .i64 b', .int .i32 m'] 23)
  have H3 : Hid (Below w.heap.size w (w3.alloc (.cells #[.string s', .int .i64 d', .int .i64 a', .int .i64 b', .int .i32 m'] 23))) := (below_step H2.out hb3).alloc (below_step H2.out hb3).size _
  clear i2 g2 hb3 H2
  go_wp2_with fail
  generalize w3.alloc (.cells #[.string s', .int .i64 d', .int .i64 a', .int .i64 b', .int .i32 m'] 23) = V3 at *
  generalize w3.heap.size = tb at *
  refine (RG.out _).mono ?_
  rintro e w4 ⟨s2, d2, a2, b2, m2, ok2, rfl, ht2, hb4⟩
  obtain ⟨rfl, rfl, rfl, rfl, rfl, rfl⟩ := told_one HT.out ht2
  have i4 := kept_on (kept_on i3 hb4) ((Below.refl w4.heap.size w4).alloc (Nat.le_refl _) (.cells #[.string s', .int .i64 d', .int .i64 a', .int .i64 b', .int .i32 m', .bool ok] 34))
  have g4 := kept_on (kept_on g3 hb4) ((Below.refl w4.heap.size w4).alloc (Nat.le_refl _) (.cells #[.string s', .int .i64 d', .int .i64 a', .int .i64 b', .int .i32 m', .bool ok] 34))
  have t4 := kept_on (kept_on t3 hb4) ((Below.refl w4.heap.size w4).alloc (Nat.le_refl _) (.cells #[.string s', .int .i64 d', .int .i64 a', .int .i64 b', .int .i32 m', .bool ok] 34))
  have h4 := alloc_at w4 (.cells #[.string s', .int .i64 d', .int .i64 a', .int .i64 b', .int .i32 m', .bool ok] 34)
  have H4 : Hid (Below w.heap.size w (w4.alloc (.cells #[.string s', .int .i64 d', .int .i64 a', .int .i64 b', .int .i32 m', .bool ok] 34))) := (below_step H3.out hb4).alloc (below_step H3.out hb4).size _
  clear i3 g3 t3 hb4 H3 ht2 HT
  go_wp2_with fail
  generalize w4.alloc (.cells #[.string s', .int .i64 d', .int .i64 a', .int .i64 b', .int .i32 m', .bool ok] 34) = V at *
  generalize w4.heap.size = hb at *
  obtain ⟨ic, _, _⟩ := cells_of i4
  obtain ⟨gc, _, _⟩ := cells_of g4
  obtain ⟨tc, _, _⟩ := cells_of t4
  obtain ⟨hc, _, _⟩ := cells_of h4
  have i0 := cell_regrown (ic 0 (.string s) rfl)
  have i1 := cell_regrown (ic 1 (.int .i64 d) rfl)
  have i2 := cell_regrown (ic 2 (.int .i64 a) rfl)
  have i3 := cell_regrown (ic 3 (.int .i64 b) rfl)
  have i4' := cell_regrown (ic 4 (.int .i32 m) rfl)
  have g0 := cell_regrown (gc 0 (.int .u32 N) rfl)
  have g1 := cell_regrown (gc 1 (.int .i64 E) rfl)
  have t0 := cell_regrown (tc 0 (.string s') rfl)
  have t1 := cell_regrown (tc 1 (.int .i64 d') rfl)
  have t2 := cell_regrown (tc 2 (.int .i64 a') rfl)
  have t3 := cell_regrown (tc 3 (.int .i64 b') rfl)
  have t4' := cell_regrown (tc 4 (.int .i32 m') rfl)
  have h0 := cell_regrown (hc 0 (.string s') rfl)
  have h1 := cell_regrown (hc 1 (.int .i64 d') rfl)
  have h2 := cell_regrown (hc 2 (.int .i64 a') rfl)
  have h3 := cell_regrown (hc 3 (.int .i64 b') rfl)
  have h4' := cell_regrown (hc 4 (.int .i32 m') rfl)
  have h5 := cell_regrown (hc 5 (.bool ok) rfl)
  clear ic gc tc hc i4 g4 t4 h4 CP RP CG RG
  cases ok
  · have hE : E2 = 3 := HE.out.symm
    subst hE
    refine wp_region_quiet_below hm (by kernel_rfl) ?_
    repeat (quiet_step (first | (go_at_call 12; exact Calls.regrown_of (CM.out _)) | (go_at_call 13; exact Calls.regrown_of (RM.out _)) | (go_at_call 14; exact quiet_same (cerr _ _)) | (go_at_call 15; exact Calls.regrown_of (cawake _))))
    refine wpQuiet_nil ?_
    intro _ hw'
    obtain ⟨⟨dq, osq⟩, hw''⟩ := hw'
    subst hw''
    go_wp2
    go_ret
    exact ⟨rfl, below_step H4.out (below_regrown V dq osq)⟩
  · have hE : E2 = 0 := HE.out.symm
    subst hE
    refine wp_region_quiet_below hm (by kernel_rfl) ?_
    repeat (quiet_step (first | (go_at_call 12; exact Calls.regrown_of (CM.out _)) | (go_at_call 13; exact Calls.regrown_of (RM.out _)) | (go_at_call 14; exact quiet_same (cerr _ _)) | (go_at_call 15; exact Calls.regrown_of (cawake _))))
    refine wpQuiet_nil ?_
    intro _ hw'
    obtain ⟨⟨dq, osq⟩, hw''⟩ := hw'
    subst hw''
    go_wp2
    go_ret
    exact ⟨rfl, below_step H4.out (below_regrown V dq osq)⟩
end Go.Proofs.Ytbdfaepljgajbaa
