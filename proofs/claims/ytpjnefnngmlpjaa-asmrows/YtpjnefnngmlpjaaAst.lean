/-
  Package asm: Assemble: a base that is none, an item that is wrong; a program without branches, jumps and addresses.
-/
import Derived.Test.YtpjnefnngmlpjaaAss
import Derived.Test.YtpjnefnngmlpjaaAsg
namespace Go.Proofs.Ytpjnefnngmlpjaa
open Go.RowKit

/-- Four results. -/
theorem four_back {fn : Func} {t u v x : Tmp} (h : fn.results = #[.tmp t, .tmp u, .tmp v, .tmp x]) (tmps : Array Value) (P : Program) (w : World) : (results fn tmps).run P w = .ok (.tuple #[tmps.getD t undef, tmps.getD u undef, tmps.getD v undef, tmps.getD x undef]) w := by
  simp [results, h]
theorem fmade (w : World) : (Instr.makeMap 73 none).run Try.prog w = .ok (.map (some w.heap.size)) (w.alloc (.map #[] 0)) := by kernel_rfl
set_option maxRecDepth 100000 in
set_option maxHeartbeats 2000000 in
theorem aAsm0 {w : World} {v : Value} {base : Int} (hb : base % 4 ≠ 0) (hu : U32 base) :
    Calls Try.prog 13 #[.int .u32 base, v] w fun e w' => e = .returned (.tuple #[.slice none 0 0, .slice none 0 0, .int .i64 0, .int .i64 4]) ∧ w' = w := by
  have t1 : base.tmod 4 = base % 4 := Int.tmod_eq_emod_of_nonneg hu.1
  obtain ⟨m, hm⟩ : ∃ m, m = base % 4 := ⟨_, rfl⟩
  have h0 : 0 ≤ m := by omega
  have h4 : m < 4 := by omega
  rw [← hm] at t1 hb
  have t2 : IntKind.u32.wrap m = m := by rw [IntKind.wrap_u32]; omega
  have t3 : (m == 0) = false := by simpa using hb
  clear hm hu
  go_enter Try.func13, Try.ntmps13
  go_wp2
  refine bodyPost_ret (four_back rfl _ _ _) rfl ?_
  exact ⟨rfl, rfl⟩
set_option maxRecDepth 100000 in
set_option maxHeartbeats 2000000 in
theorem aAsmW {w : World} {b off : Nat} {sa : Option Addr} {cap : Nat} {base : Int} {xs : List It} (hits : ItsAt w b off sa xs) (hl : xs.length ≤ 1000000) (ho : ∀ x ∈ xs, ItOk x) (hb : base % 4 = 0) (hu : U32 base) (hw : ∀ r at' er, WrongAt xs r at' er → er ≠ 0) :
    Calls Try.prog 13 #[.int .u32 base, .slice sa xs.length cap] w fun e w' => ∃ (r : Nat) (at' er : Int), WrongAt xs r at' er ∧ e = .returned (.tuple #[.slice none 0 0, .slice none 0 0, .int .i64 at', .int .i64 er]) ∧ Below w.heap.size w w' := by
  have HW : Hid _ := hw
  clear hw
  have HI : Hid _ := hits
  have HO : Hid _ := ho
  have HL : Hid (xs.length ≤ 1000000) := hl
  have CL : Hid _ := aLabels b off cap sa xs w hits hl (fun x hx => (ho x hx).nm)
  have t1 : base.tmod 4 = 0 := by rw [Int.tmod_eq_emod_of_nonneg hu.1]; exact hb
  have t2 : IntKind.u32.wrap (0 : Int) = 0 := rfl
  have hmk := fmade
  clear hits ho hl hb hu
  go_enter Try.func13, Try.ntmps13
  go_wp2_with fail
  refine Calls.mono CL.out ?_
  rintro e w1 ⟨g, rfl, hm, b1, _⟩
  have B1 : Hid _ := b1
  have M1 : Hid _ := hm
  clear b1 hm CL
  obtain ⟨W3, hW3⟩ : ∃ W3, W3 = (w1.alloc (.map #[] 0)).alloc (.cells #[.int .u32 base, .slice sa xs.length cap, .map (some g), .map (some w1.heap.size)] 75) := ⟨_, rfl⟩
  have A2 : Below w1.heap.size w1 (w1.alloc (.map #[] 0)) := (Below.refl _ _).alloc (Nat.le_refl _) _
  have A3 : Below (w1.alloc (.map #[] 0)).heap.size (w1.alloc (.map #[] 0)) W3 := by rw [hW3]; exact (Below.refl _ _).alloc (Nat.le_refl _) _
  have B3 : Hid (Below w.heap.size w W3) := below_step (below_step B1.out A2) A3
  have hs2 : (w1.alloc (.map #[] 0)).heap.size = w1.heap.size + 1 := World.size_alloc _ _
  have P3 : Hid (ProgAt W3 (w1.heap.size + 1) b off sa cap g w1.heap.size base xs) := by
    refine ⟨?_, HI.out.below B3.out, mapS_kept (mapS_kept M1.out A2) A3, kept_on (alloc_at w1 (.map #[] 0)) A3⟩
    have := alloc_at (w1.alloc (.map #[] 0)) (.cells #[.int .u32 base, .slice sa xs.length cap, .map (some g), .map (some w1.heap.size)] 75)
    rw [hs2] at this
    rw [hW3]
    exact this
  have HW3 : Hid (W3 = _) := hW3
  clear hW3 A2 A3 hs2
  go_wp2_with fail
  rw [← HW3.out]
  clear HW3
  refine Calls.mono (aWrong P3.out HL.out HO.out) ?_
  rintro e w4 ⟨r, at', er, hwr, rfl, b4⟩
  have e0 : (er == 0) = false := by simpa using HW.out _ _ _ hwr
  have HWR : Hid _ := hwr
  have B4 : Hid _ := below_step B3.out b4
  clear hwr b4
  go_wp2
  refine bodyPost_ret (four_back rfl _ _ _) rfl ?_
  exact ⟨r, at', er, HWR.out, rfl, B4.out⟩
set_option maxRecDepth 100000 in
set_option maxHeartbeats 2000000 in
theorem aAsmP {w : World} {b off : Nat} {sa : Option Addr} {cap : Nat} {base : Int} {xs : List It} (hits : ItsAt w b off sa xs) (hl : xs.length ≤ 1000000) (ho : ∀ x ∈ xs, ItOk x) (hb : base % 4 = 0) (hu : U32 base) (hw : ∀ r at' er, WrongAt xs r at' er → er = 0) (hpl : ∀ x ∈ xs, plainIt x) (wf : Nat → List Int) (hwf : ∀ (k : Nat) (x : It), xs[k]? = some x → x.kind = 7 → WordsAt w x.wa x.wl x.wc (wf k)) (hlab : ∀ (k : Nat) (x : It), xs[k]? = some x → x.kind = 1 → labF xs xs.length x.name = some (k : Int)) (hfew : ∀ j, j ≤ xs.length → sumV xs j ≤ 65536) :
    Calls Try.prog 13 #[.int .u32 base, .slice sa xs.length cap] w fun e w' => ∃ (wv sv : Value) (B : Nat), e = .returned (.tuple #[wv, sv, .int .i64 0, .int .i64 0]) ∧ w.heap.size ≤ B ∧ w'.ownsRow B 22 1 wv (outW xs wf xs.length).length (wrow (outW xs wf xs.length)) ∧ w'.ownsRow B 59 2 sv (outS base xs xs.length).length (srow (outS base xs xs.length)) ∧ (∀ k, wv.ownBlock = some k → sv.ownBlock = some k → False) ∧ Below w.heap.size w w' := by
  have HW : Hid _ := hw
  have HPL : Hid _ := hpl
  have HWF : Hid _ := hwf
  have HLAB : Hid _ := hlab
  have HFEW : Hid _ := hfew
  clear hw hpl hwf hlab hfew
  have HI : Hid _ := hits
  have HO : Hid _ := ho
  have HL : Hid (xs.length ≤ 1000000) := hl
  have CL : Hid _ := aLabels b off cap sa xs w hits hl (fun x hx => (ho x hx).nm)
  have t1 : base.tmod 4 = 0 := by rw [Int.tmod_eq_emod_of_nonneg hu.1]; exact hb
  have t2 : IntKind.u32.wrap (0 : Int) = 0 := rfl
  have hmk := fmade
  clear hits ho hl hb hu
  go_enter Try.func13, Try.ntmps13
  go_wp2_with fail
  refine Calls.mono CL.out ?_
  rintro e w1 ⟨g, rfl, hm, b1, _⟩
  have B1 : Hid _ := b1
  have M1 : Hid _ := hm
  clear b1 hm CL
  obtain ⟨W3, hW3⟩ : ∃ W3, W3 = (w1.alloc (.map #[] 0)).alloc (.cells #[.int .u32 base, .slice sa xs.length cap, .map (some g), .map (some w1.heap.size)] 75) := ⟨_, rfl⟩
  have A2 : Below w1.heap.size w1 (w1.alloc (.map #[] 0)) := (Below.refl _ _).alloc (Nat.le_refl _) _
  have A3 : Below (w1.alloc (.map #[] 0)).heap.size (w1.alloc (.map #[] 0)) W3 := by rw [hW3]; exact (Below.refl _ _).alloc (Nat.le_refl _) _
  have B3 : Hid (Below w.heap.size w W3) := below_step (below_step B1.out A2) A3
  have hs2 : (w1.alloc (.map #[] 0)).heap.size = w1.heap.size + 1 := World.size_alloc _ _
  have P3 : Hid (ProgAt W3 (w1.heap.size + 1) b off sa cap g w1.heap.size base xs) := by
    refine ⟨?_, HI.out.below B3.out, mapS_kept (mapS_kept M1.out A2) A3, kept_on (alloc_at w1 (.map #[] 0)) A3⟩
    have := alloc_at (w1.alloc (.map #[] 0)) (.cells #[.int .u32 base, .slice sa xs.length cap, .map (some g), .map (some w1.heap.size)] 75)
    rw [hs2] at this
    rw [hW3]
    exact this
  have HW3 : Hid (W3 = _) := hW3
  clear hW3 A2 A3 hs2
  go_wp2_with fail
  rw [← HW3.out]
  clear HW3
  refine Calls.mono (aWrong P3.out HL.out HO.out) ?_
  rintro e w4 ⟨r, at', er, hwr, rfl, b4⟩
  have e0 : er = 0 := HW.out _ _ _ hwr
  subst e0
  have B4 : Hid _ := below_step B3.out b4
  have P4 : Hid _ := P3.out.below b4
  clear hwr b4
  go_wp2_with fail
  refine Calls.mono (aFind0 P4.out HL.out HO.out (fun x hx => by have := HPL.out x hx; unfold plainIt at this; omega)) ?_
  rintro e w5 ⟨rfl, b5⟩
  have B5 : Hid _ := below_step B4.out b5
  have P5 : Hid _ := P4.out.below b5
  clear b5
  go_wp2_with fail
  refine Calls.mono (aFull P5.out HL.out HO.out) ?_
  rintro e w6 ⟨r2, hf, rfl, b6⟩
  have B6 : Hid _ := below_step B5.out b6
  have P6 : Hid _ := P5.out.below b6
  have er2 : r2 = xs.length := by
    have h1 := hf.le
    have h2 := hf.many
    have h3 := HFEW.out (r2 + 1)
    omega
  subst er2
  clear hf b6
  go_wp2_with fail
  refine Calls.mono (aWrite P6.out HL.out HO.out HPL.out wf (fun k x hx e => WordsAt.below (HWF.out k x hx e) B6.out) HLAB.out HFEW.out) ?_
  rintro e w7 ⟨wv, sv, B, rfl, hB, h1, h2, h3, b7⟩
  have B7 : Hid _ := below_step B6.out b7
  have H : Hid (_ ∧ _ ∧ _ ∧ _) := ⟨Nat.le_trans B6.out.size hB, h1, h2, h3⟩
  clear b7 hB h1 h2 h3
  go_wp2
  refine bodyPost_ret (four_back rfl _ _ _) rfl ?_
  exact ⟨wv, sv, B, rfl, H.out.1, H.out.2.1, H.out.2.2.1, H.out.2.2.2, B7.out⟩
end Go.Proofs.Ytpjnefnngmlpjaa
