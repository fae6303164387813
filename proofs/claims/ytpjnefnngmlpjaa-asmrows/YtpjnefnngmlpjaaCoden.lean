/-
  Whether an instruction may be, as the code tells it: the contract of the function that does it.
-/
import Derived.Test.YtpjnefnngmlpjaaCodem
namespace Go.Proofs.Ytpjnefnngmlpjaa
open Go.RowKit Go.Sort

set_option maxRecDepth 100000 in
set_option maxHeartbeats 2000000 in
theorem may_yes (s : ByteArray) (d a b m o g f la : Int) (t : Bool) (hf : foundV s = .tuple #[.agg #[.string s, .int .i64 la, .int .u32 o, .int .u32 f, .int .u32 g], .bool true]) (rd r1 r2 lo hi st : Int) (hb : bnd la = (rd, r1, r2, lo, hi, st)) (hl : 0 ≤ la ∧ la ≤ 8) (hst : 1 ≤ st) (ht : holdV d a b m rd r1 r2 lo hi st = t) (w : World) :
    Calls Try.prog 73 #[.agg #[.string s, .int .i64 d, .int .i64 a, .int .i64 b, .int .i32 m]] w fun e w' => e = .returned (.bool t) ∧ Below w.heap.size w w' := by
  have CF : Hid _ := cformOf s
  rw [hf] at CF
  have CB : Hid _ := cbounds la rd r1 r2 lo hi st hb hl
  have CH : Hid _ := chold s d a b m rd r1 r2 lo hi st hst
  rw [ht] at CH
  clear hf hb hl hst ht
  have hm : Try.prog.follows .mixedOrders = true := by kernel_rfl
  go_enter Try.func73, Try.ntmps73
  go_wp2_with fail
  refine (CF.out _).mono ?_
  rintro e w1 ⟨rfl, hb1⟩
  have hB0 := below_first hb1
  obtain ⟨cc, _, hsz⟩ := cells_of (kept_on (kept_block hb1) ((Below.refl w1.heap.size w1).alloc (Nat.le_refl _) (.cells #[.string s, .int .i64 la, .int .u32 o, .int .u32 f, .int .u32 g] 156)))
  have c0 := cc 0 (.string s) rfl
  have c1 := cc 1 (.int .i64 d) rfl
  have c2 := cc 2 (.int .i64 a) rfl
  have c3 := cc 3 (.int .i64 b) rfl
  have c4 := cc 4 (.int .i32 m) rfl
  have f1 : (w1.alloc (.cells #[.string s, .int .i64 la, .int .u32 o, .int .u32 f, .int .u32 g] 156)).cell? ⟨w1.heap.size, 1, none⟩ = some (.int .i64 la) := by simp [go_sem]
  have HB : Hid (Below w.heap.size w (w1.alloc (.cells #[.string s, .int .i64 la, .int .u32 o, .int .u32 f, .int .u32 g] 156))) := hB0.alloc hB0.size _
  clear cc hb1 hB0
  go_wp2_with fail
  generalize w1.alloc (.cells #[.string s, .int .i64 la, .int .u32 o, .int .u32 f, .int .u32 g] 156) = V at *
  generalize w1.heap.size = v at *
  have k0 := cell_regrown c0
  have k1 := cell_regrown c1
  have k2 := cell_regrown c2
  have k3 := cell_regrown c3
  have k4 := cell_regrown c4
  have kf := cell_regrown f1
  have cB : ∀ d os, Calls Try.prog 93 #[.int .i64 la] (grow (redrawn V d) os) fun e w'' => e = .returned (.agg #[.int .i64 rd, .int .i64 r1, .int .i64 r2, .int .i32 lo, .int .i32 hi, .int .i32 st]) ∧ ∃ p : Regrown, w'' = grow (redrawn V p.d) p.os := fun d os => Calls.regrown_of (CB.out _)
  have cH : ∀ dd os, Calls Try.prog 94 #[.agg #[.int .i64 rd, .int .i64 r1, .int .i64 r2, .int .i32 lo, .int .i32 hi, .int .i32 st], .agg #[.string s, .int .i64 d, .int .i64 a, .int .i64 b, .int .i32 m]] (grow (redrawn V dd) os) fun e w'' => e = .returned (.bool t) ∧ ∃ p : Regrown, w'' = grow (redrawn V p.d) p.os := fun dd os => Calls.regrown_of (CH.out _)
  refine wp_region_quiet_below hm (by kernel_rfl) ?_
  repeat (quiet_step (first | exact cB _ _ | exact cH _ _))
  refine wpQuiet_nil ?_
  intro _ hw'
  obtain ⟨⟨dq, osq⟩, hw''⟩ := hw'
  subst hw''
  go_wp2
  go_ret
  exact ⟨rfl, HB.out.trans ((below_regrown V dq osq).mono HB.out.size)⟩

set_option maxHeartbeats 2000000 in
theorem may_none (s : ByteArray) (d a b m : Int) (hf : foundV s = .tuple #[.agg #[.string ⟨#[]⟩, .int .i64 0, .int .u32 0, .int .u32 0, .int .u32 0], .bool false]) (w : World) :
    Calls Try.prog 73 #[.agg #[.string s, .int .i64 d, .int .i64 a, .int .i64 b, .int .i32 m]] w fun e w' => e = .returned (.bool false) ∧ Below w.heap.size w w' := by
  have CF : Hid _ := cformOf s
  rw [hf] at CF
  clear hf
  go_enter Try.func73, Try.ntmps73
  go_wp2_with fail
  refine (CF.out _).mono ?_
  rintro e w1 ⟨rfl, hb1⟩
  have hB0 := below_first hb1
  have HB : Hid (Below w.heap.size w (w1.alloc (.cells #[.string ⟨#[]⟩, .int .i64 0, .int .u32 0, .int .u32 0, .int .u32 0] 156))) := hB0.alloc hB0.size _
  clear hb1 hB0
  have hm : Try.prog.follows .mixedOrders = true := by kernel_rfl
  go_wp2_with fail
  refine wp_region_quiet_below hm (by kernel_rfl) ?_
  repeat (quiet_step (fail))
  refine wpQuiet_nil ?_
  intro _ hw'
  obtain ⟨⟨dq, osq⟩, hw''⟩ := hw'
  subst hw''
  go_wp2
  go_ret
  exact ⟨rfl, HB.out.trans ((below_regrown _ dq osq).mono HB.out.size)⟩

theorem found_kind (s : ByteArray) : ((formV s.toList).k = 0 ∧ foundV s = .tuple #[.agg #[.string ⟨#[]⟩, .int .i64 0, .int .u32 0, .int .u32 0, .int .u32 0], .bool false]) ∨
    (((formV s.toList).k = 82 ∨ (formV s.toList).k = 73 ∨ (formV s.toList).k = 83 ∨ (formV s.toList).k = 115 ∨ (formV s.toList).k = 66 ∨ (formV s.toList).k = 85 ∨ (formV s.toList).k = 74 ∨ (formV s.toList).k = 67 ∨ (formV s.toList).k = 87) ∧
      foundV s = .tuple #[.agg #[.string s, .int .i64 (lay9 (formV s.toList).k), .int .u32 (formV s.toList).o, .int .u32 (formV s.toList).f, .int .u32 (formV s.toList).g], .bool true]) := by
  by_cases h : (formV s.toList).k = 0
  · exact Or.inl ⟨h, by unfold foundV; rw [if_pos h]⟩
  · refine Or.inr ⟨?_, by unfold foundV; rw [if_neg h]⟩
    have := kinds s.toList
    omega

theorem cMay (s : ByteArray) (d a b m : Int) (w : World) :
    Calls Try.prog 73 #[.agg #[.string s, .int .i64 d, .int .i64 a, .int .i64 b, .int .i32 m]] w fun e w' => e = .returned (.bool (mayV ⟨s.toList, d, a, b, m⟩)) ∧ Below w.heap.size w w' := by
  rcases found_kind s with ⟨h, hf⟩ | ⟨h, hf⟩
  · have e : mayV ⟨s.toList, d, a, b, m⟩ = false := by
      unfold mayV mayF
      simp [h]
    rw [e]
    exact may_none s d a b m hf w
  · obtain ⟨rd, r1, r2, lo, hi, st, h1, h2, h3, h4⟩ := hold_may (formV s.toList).k d a b m h
    exact may_yes s d a b m _ _ _ _ _ hf rd r1 r2 lo hi st h1 h3 h2 h4 w
end Go.Proofs.Ytpjnefnngmlpjaa
