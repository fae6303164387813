/-
  The word of an instruction, or that there is none, as the code tells it: the contract of the function that does it.
-/
import Derived.Test.YtpjnefnngmlpjaaCodex
import Derived.Test.YtpjnefnngmlpjaaRefr
namespace Go.Proofs.Ytpjnefnngmlpjaa
open Go.RowKit Go.Sort

theorem ret_put {x y e f : Int} (h : x = y) (h' : e = f) : Ending.returned (.tuple #[.int .u32 x, .int .i64 e]) = .returned (.tuple #[.int .u32 y, .int .i64 f]) := by rw [h, h']

set_option maxRecDepth 100000 in
set_option maxHeartbeats 2000000 in
theorem put_yes (s : ByteArray) (d a b m o g f la R : Int) (t : Bool) (hf : foundV s = .tuple #[.agg #[.string s, .int .i64 la, .int .u32 o, .int .u32 f, .int .u32 g], .bool true]) (rd r1 r2 lo hi st : Int) (hb : bnd la = (rd, r1, r2, lo, hi, st)) (hl : 0 ≤ la ∧ la ≤ 8) (hst : 1 ≤ st) (ht : holdV d a b m rd r1 r2 lo hi st = t)
    (ho : U32 o) (hf' : U32 f) (hg : U32 g) (hR : encV la o (bitsV o 0 7) (bitsV g 0 3) (bitsV f 0 7) (bitsV (d % 4294967296) 0 5) (bitsV (a % 4294967296) 0 5) (bitsV (b % 4294967296) 0 5) (m % 4294967296) = R) (w : World) :
    Calls Try.prog 96 #[.agg #[.string s, .int .i64 d, .int .i64 a, .int .i64 b, .int .i32 m]] w fun e w' => e = .returned (.tuple #[.int .u32 (if t then R else 0), .int .i64 (if t then 0 else 1)]) ∧ Below w.heap.size w w' := by
  have CF : Hid _ := cformOf s
  rw [hf] at CF
  have CB : Hid _ := cbounds la rd r1 r2 lo hi st hb hl
  have CH : Hid _ := chold s d a b m rd r1 r2 lo hi st hst
  rw [ht] at CH
  have CE : Hid _ := encode_walk s s la o f g d a b m hl ho hf' hg
  rw [hR] at CE
  clear hf hb hl hst ht ho hf' hg hR
  have hm : Try.prog.follows .mixedOrders = true := by kernel_rfl
  cases t
  all_goals
    go_enter Try.func96, Try.ntmps96
    go_wp2_with fail
    refine (CF.out _).mono ?_
    rintro e w1 ⟨rfl, hb1⟩
    have hB0 := below_first hb1
    obtain ⟨cc, _, hsz⟩ := cells_of (kept_on (kept_block hb1) ((Below.refl w1.heap.size w1).alloc (Nat.le_refl _) (.cells #[.string s, .int .i64 la, .int .u32 o, .int .u32 f, .int .u32 g] 156)))
    have c0 := cc 0 (.string s) rfl
    have c1 := cc 1 (.int .i64 d) rfl
    have c2 := cc 2 (.int .i64 a) rfl
    have c3 := cc 3 (.int .i64 b) rfl
    have c4 := cc 4 (.int .i32 m) rfl
    obtain ⟨fc, _, _⟩ := cells_of (alloc_at w1 (.cells #[.string s, .int .i64 la, .int .u32 o, .int .u32 f, .int .u32 g] 156))
    have f0 := fc 0 (.string s) rfl
    have f1 := fc 1 (.int .i64 la) rfl
    have f2 := fc 2 (.int .u32 o) rfl
    have f3 := fc 3 (.int .u32 f) rfl
    have f4 := fc 4 (.int .u32 g) rfl
    have HB : Hid (Below w.heap.size w (w1.alloc (.cells #[.string s, .int .i64 la, .int .u32 o, .int .u32 f, .int .u32 g] 156))) := hB0.alloc hB0.size _
    clear cc fc hb1 hB0
    go_wp2_with fail
    generalize w1.alloc (.cells #[.string s, .int .i64 la, .int .u32 o, .int .u32 f, .int .u32 g] 156) = V at *
    generalize w1.heap.size = v at *
    have k0 := cell_regrown c0
    have k1 := cell_regrown c1
    have k2 := cell_regrown c2
    have k3 := cell_regrown c3
    have k4 := cell_regrown c4
    have j0 := cell_regrown f0
    have j1 := cell_regrown f1
    have j2 := cell_regrown f2
    have j3 := cell_regrown f3
    have j4 := cell_regrown f4
    have cB : ∀ d os, Calls Try.prog 93 #[.int .i64 la] (grow (redrawn V d) os) fun e w'' => e = .returned (.agg #[.int .i64 rd, .int .i64 r1, .int .i64 r2, .int .i32 lo, .int .i32 hi, .int .i32 st]) ∧ ∃ p : Regrown, w'' = grow (redrawn V p.d) p.os := fun d os => Calls.regrown_of (CB.out _)
    have cH : ∀ dd os, Calls Try.prog 94 #[.agg #[.int .i64 rd, .int .i64 r1, .int .i64 r2, .int .i32 lo, .int .i32 hi, .int .i32 st], .agg #[.string s, .int .i64 d, .int .i64 a, .int .i64 b, .int .i32 m]] (grow (redrawn V dd) os) fun e w'' => e = .returned (.bool _) ∧ ∃ p : Regrown, w'' = grow (redrawn V p.d) p.os := fun dd os => Calls.regrown_of (CH.out _)
    refine wp_region_quiet_below hm (by kernel_rfl) ?_
    repeat (quiet_step (first | exact cB _ _ | exact cH _ _))
    refine wpQuiet_nil ?_
    intro _ hw'
    obtain ⟨⟨dq, osq⟩, hw''⟩ := hw'
    subst hw''
    have HB2 : Hid (Below w.heap.size w (grow (redrawn V dq) osq)) := below_step HB.out (below_regrown V dq osq)
  · go_wp2
    exact bodyPost_ret (v := .tuple #[.int .u32 0, .int .i64 1]) (by simp [results, Try.results96, go_sem]) rfl ⟨rfl, HB2.out⟩
  · go_wp2_with fail
    refine (CE.out _).mono ?_
    rintro e w3 ⟨rfl, hb3⟩
    go_wp2
    exact bodyPost_ret (v := .tuple #[.int .u32 R, .int .i64 0]) (by simp [results, Try.results96, go_sem]) rfl ⟨rfl, below_step HB2.out hb3⟩

set_option maxHeartbeats 2000000 in
theorem put_none (s : ByteArray) (d a b m : Int) (hf : foundV s = .tuple #[.agg #[.string ⟨#[]⟩, .int .i64 0, .int .u32 0, .int .u32 0, .int .u32 0], .bool false]) (w : World) :
    Calls Try.prog 96 #[.agg #[.string s, .int .i64 d, .int .i64 a, .int .i64 b, .int .i32 m]] w fun e w' => e = .returned (.tuple #[.int .u32 0, .int .i64 1]) ∧ Below w.heap.size w w' := by
  have CF : Hid _ := cformOf s
  rw [hf] at CF
  clear hf
  go_enter Try.func96, Try.ntmps96
  go_wp2_with fail
  refine (CF.out _).mono ?_
  rintro e w1 ⟨rfl, hb1⟩
  have hB0 := below_first hb1
  have HB : Hid (Below w.heap.size w (w1.alloc (.cells #[.string ⟨#[]⟩, .int .i64 0, .int .u32 0, .int .u32 0, .int .u32 0] 156))) := hB0.alloc hB0.size _
  clear hb1 hB0
  have hm : Try.prog.follows .mixedOrders = true := by kernel_rfl
  go_wp2_with fail
  refine wp_region_quiet_below hm (by kernel_rfl) ?_
  repeat (quiet_step (fail))
  refine wpQuiet_nil ?_
  intro _ hw'
  obtain ⟨⟨dq, osq⟩, hw''⟩ := hw'
  subst hw''
  go_wp2
  exact bodyPost_ret (v := .tuple #[.int .u32 0, .int .i64 1]) (by simp [results, Try.results96, go_sem]) rfl ⟨rfl, below_step HB.out (below_regrown _ dq osq)⟩

theorem good_u32 {p : MForm} (h : goodF p) : 0 ≤ p.o ∧ p.o < 4294967296 := by
  unfold goodF at h
  omega
theorem form_all : ∀ q ∈ forms, U32 q.2.o ∧ U32 q.2.f ∧ U32 q.2.g := by simp [forms, U32]

theorem cPut (s : ByteArray) (d a b m : Int) (w : World) :
    Calls Try.prog 96 #[.agg #[.string s, .int .i64 d, .int .i64 a, .int .i64 b, .int .i32 m]] w fun e w' => e = .returned (.tuple #[.int .u32 (putN ⟨s.toList, d, a, b, m⟩), .int .i64 (putE ⟨s.toList, d, a, b, m⟩)]) ∧ Below w.heap.size w w' := by
  rcases found_kind s with ⟨h, hf⟩ | ⟨h, hf⟩
  · have e : mayV ⟨s.toList, d, a, b, m⟩ = false := by
      unfold mayV mayF
      simp [h]
    unfold putN putE
    rw [e]
    exact put_none s d a b m hf w
  · obtain ⟨rd, r1, r2, lo, hi, st, h1, h2, h3, h4⟩ := hold_may (formV s.toList).k d a b m h
    have hmem : (s.toList, formV s.toList) ∈ forms := by
      unfold formV at h ⊢
      cases hl : forms.lookup s.toList with
      | none => rw [hl] at h; simp [noForm] at h
      | some p => exact mem_of_lookup hl
    obtain ⟨u1, u2, u3⟩ := form_all _ hmem
    have hgood := forms_good _ hmem
    refine (put_yes s d a b m _ _ _ _ _ _ hf rd r1 r2 lo hi st h1 h3 h2 h4 u1 u2 u3 rfl w).mono ?_
    rintro e w' ⟨rfl, hb⟩
    refine ⟨?_, hb⟩
    unfold putN putE mayV
    simp only
    cases hm : mayF (formV s.toList).k d a b m with
    | false => rfl
    | true =>
      have := enc_put (formV s.toList).k (formV s.toList).o (formV s.toList).g (formV s.toList).f d a b m hgood hm
      simp only [if_true]
      rw [this]
      rfl
end Go.Proofs.Ytpjnefnngmlpjaa
