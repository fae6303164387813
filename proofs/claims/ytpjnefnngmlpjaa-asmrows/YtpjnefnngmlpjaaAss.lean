/-
  Package asm: write, of a program without branches, jumps and addresses.
-/
import Derived.Test.YtpjnefnngmlpjaaAsr
namespace Go.Proofs.Ytpjnefnngmlpjaa
open Go.RowKit

set_option maxRecDepth 100000 in
set_option maxHeartbeats 2000000 in
theorem aWrite {w : World} {pb b off : Nat} {sa : Option Addr} {cap g gf : Nat} {base : Int} {xs : List It} (h : ProgAt w pb b off sa cap g gf base xs) (hl : xs.length ≤ 1000000) (ho : ∀ x ∈ xs, ItOk x) (hpl : ∀ x ∈ xs, plainIt x) (wf : Nat → List Int) (hwf : ∀ (k : Nat) (x : It), xs[k]? = some x → x.kind = 7 → WordsAt w x.wa x.wl x.wc (wf k)) (hlab : ∀ (k : Nat) (x : It), xs[k]? = some x → x.kind = 1 → labF xs xs.length x.name = some (k : Int)) (hfew : ∀ j, j ≤ xs.length → sumV xs j ≤ 65536) :
    Calls Try.prog 26 #[.pointer (some ⟨pb, 0, none⟩)] w fun e w' => ∃ (wv sv : Value) (B : Nat), e = .returned (.tuple #[wv, sv]) ∧ w.heap.size ≤ B ∧ w'.ownsRow B 22 1 wv (outW xs wf xs.length).length (wrow (outW xs wf xs.length)) ∧ w'.ownsRow B 59 2 sv (outS base xs xs.length).length (srow (outS base xs xs.length)) ∧ (∀ k, wv.ownBlock = some k → sv.ownBlock = some k → False) ∧ Below w.heap.size w w' := by
  have hmo : Try.prog.follows .mixedOrders = true := by kernel_rfl
  have HP : Hid _ := h
  have HO : Hid _ := ho
  have HPL : Hid _ := hpl
  have HWF : Hid _ := hwf
  have HLAB : Hid _ := hlab
  have HFEW : Hid _ := hfew
  have HL : Hid (xs.length ≤ 1000000) := hl
  have CS : Hid _ := aStarts h hl ho
  have HWL : Hid _ := outW_len (wf := wf) ho hpl (fun k x hx e => (hwf k x hx e).1)
  have c1 := h.slice
  clear h ho hpl hwf hlab hfew hl
  generalize hln : xs.length = n at *
  have HLN : Hid (xs.length = n) := hln
  clear hln
  go_enter Try.func26, Try.ntmps26
  go_wp2_with fail
  refine Calls.mono CS.out ?_
  rintro e w1 ⟨gb, rfl, hgb, b1, hgl⟩
  have B1 : Hid _ := b1
  have G1 : Hid _ := hgb
  have GL : Hid (w.heap.size ≤ gb) := hgl
  have hgs : gb < w1.heap.size := (Array.getElem?_eq_some_iff.1 hgb).1
  clear b1 hgb hgl CS
  obtain ⟨wb, hwb⟩ : ∃ wb, wb = w1.heap.size := ⟨_, rfl⟩
  obtain ⟨W0, hW0⟩ : ∃ W0, W0 = w1.alloc (.cells #[.pointer (some ⟨pb, 0, none⟩), .slice (some ⟨gb, 0, none⟩) n n, .slice none 0 0, .slice none 0 0] 113) := ⟨_, rfl⟩
  have A0 : Below w1.heap.size w1 W0 := by rw [hW0]; exact (Below.refl _ _).alloc (Nat.le_refl _) _
  have B0 : Hid (Below w.heap.size w W0) := below_step B1.out A0
  have hsz : W0.heap.size = wb + 1 := by rw [hW0, hwb]; exact World.size_alloc _ _
  have HWB : Hid (w.heap.size ≤ wb) := by rw [hwb]; exact B1.out.size
  have S0 : Hid (∃ wv sv, WrAt W0 wb pb gb (wb + 1) n (sumV xs) wv sv (outW xs wf 0) (outS base xs 0) ∧ Below w.heap.size w W0) :=
    ⟨.slice none 0 0, .slice none 0 0, ⟨by rw [hW0, hwb]; exact alloc_at w1 _, by rw [hW0]; exact kept_on G1.out ((Below.refl _ _).alloc (Nat.le_refl _) _), World.ownsRow_nil _ _ _ _, World.ownsRow_nil _ _ _ _, fun k e _ => by (cases e), Nat.lt_succ_self _, by omega, by omega, by omega⟩, B0.out⟩
  have c3 : W0.cell? ⟨pb, 1, none⟩ = some (.slice sa n cap) := by have := (HP.out.below B0.out).slice; rw [HLN.out] at this; exact this
  rw [hW0] at c3
  have HW0 : Hid (W0 = _) := hW0
  have HWBE : Hid (wb = w1.heap.size) := hwb
  clear hW0 hwb hsz
  go_wp2_with fail
  rw [← HW0.out, ← HWBE.out]
  rw [← HW0.out] at c3
  go_loopw [15] (fun i wr => ∃ (k : Nat) (V : World), V = wr ∧ k ≤ n ∧ i = .int .i64 k ∧ Hid (∃ wv sv, WrAt V wb pb gb (wb + 1) n (sumV xs) wv sv (outW xs wf k) (outS base xs k) ∧ Below w.heap.size w V)) (fun i _ => n - (intOf i).toNat)
  case atStart => exact ⟨0, _, rfl, Nat.zero_le _, rfl, S0.out⟩
  case round =>
    clear S0 c3
    obtain ⟨k, V, rfl, hk, rfl, hr⟩ := hrel
    obtain ⟨wv, sv, h1, h2⟩ := hr.out
    have H1 : Hid _ := h1
    have H2 : Hid _ := h2
    clear h1 h2 hr
    by_cases hlt : k < n
    · obtain ⟨x, hx⟩ : ∃ x, xs[k]? = some x := ⟨_, List.getElem?_eq_getElem (by rw [HLN.out]; exact hlt)⟩
      have HX : Hid _ := hx
      have hm := List.mem_of_getElem? hx
      have e1 : ((outW xs wf k).length : Int) = sumV xs k := HWL.out k
      have e2 := HFEW.out k hk
      have e3 := HFEW.out (k + 1) hlt
      have e4 := (sumV_bd HO.out k).1
      have e5 := sumV_next hx
      have e6 := outS_len base xs k
      have e7 := HL.out
      have CI : Hid _ := aItem (HP.out.below H2.out) (by rw [HLN.out]; exact e7) H1.out (by omega) (by omega) k x hx (HO.out x hm) (HPL.out x hm) (wf k) (fun e => WordsAt.below (HWF.out k x hx e) H2.out) (by omega) hlt (fun e => by rw [HLN.out]; exact HLAB.out k x hx e)
      have k0 : (0 : Int) ≤ (k : Int) := by omega
      have k1 : (k : Int) < (n : Int) := by omega
      clear hx hm e1 e2 e3 e4 e5 e6 c1
      go_wp2_with fail
      refine Calls.mono CI.out ?_
      rintro e w2 ⟨rfl, wv2, sv2, r1, r2⟩
      have R1 : Hid _ := r1
      have R2 : Hid _ := r2
      clear r1 r2 CI
      go_wp2_with fail
      refine ⟨⟨k + 1, _, rfl, hlt, by go_num, ?_⟩, by simp [intOf]; omega⟩
      refine ⟨wv2, sv2, ?_, R2.out _ w HWB.out H2.out⟩
      rw [outW_next HX.out, outS_next HX.out]
      exact R1.out
    · have hkn : k = n := by omega
      subst hkn
      clear c1
      go_wp2_with fail
      refine wp_region_mix [] [.pointer (some ⟨wb, 2, none⟩), wv, .pointer (some ⟨wb, 3, none⟩), sv, wv, sv] hmo (by kernel_rfl) (by intro r hr; cases hr) ?_ (by intro r hr; cases hr) (by intro r hr; cases hr) ?_
      · generalize hl : lay _ _ _ = af
        have e4 : af.tmps[4]?.getD undef = .pointer (some ⟨wb, 0, none⟩) := by rw [← hl]; kernel_rfl
        have e21 : af.tmps[21]?.getD undef = .pointer (some ⟨wb, 2, none⟩) := by rw [← hl]; kernel_rfl
        have e22 : af.tmps[22]?.getD undef = wv := by rw [← hl]; kernel_rfl
        have e23 : af.tmps[23]?.getD undef = .pointer (some ⟨wb, 3, none⟩) := by rw [← hl]; kernel_rfl
        have e24 : af.tmps[24]?.getD undef = sv := by rw [← hl]; kernel_rfl
        clear hl
        refine And.intro (fun w' hw => quiet_run (by simp [execOp, go_sem, e4])) ?_
        refine And.intro (fun w' hw => by
          have c : w'.cell? ⟨wb, 2, none⟩ = some wv := (cells_of (H1.out.below hw).blk).1 2 _ rfl
          exact quiet_run (by simp [execOp, go_sem, e21, c])) ?_
        refine And.intro (fun w' hw => quiet_run (by simp [execOp, go_sem, e4])) ?_
        refine And.intro (fun w' hw => by
          have c : w'.cell? ⟨wb, 3, none⟩ = some sv := (cells_of (H1.out.below hw).blk).1 3 _ rfl
          exact quiet_run (by simp [execOp, go_sem, e23, c])) ?_
        refine And.intro (fun w' hw => quiet_run (by simp [execOp, go_sem, e22])) ?_
        refine And.intro (fun w' hw => quiet_run (by simp [execOp, go_sem, e24])) ?_
        exact True.intro
      · intro β w2 hw2 _ _
        have HW2 : Hid _ := hw2
        clear hw2
        simp [putAl, lay, Act.put]
        go_wp2
        go_ret2
        refine ⟨wv, sv, wb + 1, rfl, ?_, ?_, ?_, H1.out.apart, below_step H2.out HW2.out⟩
        · have := HWB.out
          omega
        · exact owns_below H1.out.words HW2.out
        · exact owns_below H1.out.syms HW2.out
end Go.Proofs.Ytpjnefnngmlpjaa
