/-
  footmanref10: All, IsName.
-/
import Derived.Test.YtjgpojjbjgdfkaaDoorRxj
import Derived.Test.YtjgpojjbjgdfkaaDoorLxr
import Derived.Test.YtjgpojjbjgdfkaaDoorLpa
namespace Go.Proofs.YtjgpojjbjgdfkaaDoor
open Go.RowKit Go.Sort

structure AllX (w wr : World) (v : Value) (n : Nat) (done : List (Int × ByteArray × Int × Nat)) : Prop where
  low : Below w.heap.size w wr
  own : wr.ownsRow w.heap.size 33 4 v n (tkrow done)
theorem all_stepX {w wr w2 W5 : World} {v v' : Value} {n : Nat} {done : List (Int × ByteArray × Int × Nat)} {x : Int × ByteArray × Int × Nat} {ob ob2 : Obj} (h : AllX w wr v n done) (hb : Below wr.heap.size wr w2)
    (ho : W5.ownsRow w.heap.size 33 4 v' (n + 1) (tkrow done ++ tkC x)) (hg : ((w2.alloc ob).alloc ob2).grownBy W5 v.ownBlock) :
    AllX w W5 v' (n + 1) (done ++ [x]) ∧ W5.heap[w2.heap.size]? = some ob := by
  have o2 := owns_below h.own hb
  have b3 : Below w2.heap.size w2 ((w2.alloc ob).alloc ob2) := box2
  have o4 := owns_below o2 b3
  have l2 : Below w.heap.size w w2 := below_step h.low hb
  have l4 : Below w.heap.size w ((w2.alloc ob).alloc ob2) := below_step l2 b3
  have l5 : Below w.heap.size w W5 := by
    refine l4.trans ⟨hg.os, hg.tape, hg.output, hg.size, fun k hk => hg.block k (by have := l4.size; omega) (fun e => ?_)⟩
    have := owns_block o4 e
    omega
  refine ⟨⟨l5, by rw [tkrow_snoc]; exact ho⟩, ?_⟩
  have hbk : ((w2.alloc ob).alloc ob2).heap[w2.heap.size]? = some ob := kept_on (alloc_at w2 ob) ((Below.refl _ _).alloc (Nat.le_refl _) _)
  rw [hg.block _ ((Array.getElem?_eq_some_iff.1 hbk).1) (fun e => by have := (owns_block o2 e).2.1; omega)]
  exact hbk
theorem clamp_zero' (X : ByteArray) : clampV X 0 = 0 := by
  show (min (max 0 0) (X.size : Int)).toNat = 0
  omega
theorem clamp_nat {S : ByteArray} {p : Nat} (h : p ≤ S.size) : clampV S (p : Int) = p := by
  unfold clampV
  omega
set_option maxRecDepth 100000 in
set_option maxHeartbeats 4000000 in
theorem xAll {w : World} {S : ByteArray} (hS : S.size ≤ 900000) :
    Calls Tryd.prog 19 #[.string S] w fun e w' => ∃ v n, e = .returned v ∧ n = (allV S (S.size + 1) 0).length ∧ w'.ownsRow w.heap.size 33 4 v n (tkrow (allV S (S.size + 1) 0)) ∧ Below w.heap.size w w' := by
  have h0 : Hid (AllX w w (.slice none 0 0) 0 []) := ⟨Below.refl _ _, ⟨rfl, .inl ⟨rfl, rfl⟩⟩⟩
  obtain ⟨L, hL⟩ : ∃ L, L = allV S (S.size + 1) 0 := ⟨_, rfl⟩
  have HL : Hid (L = allV S (S.size + 1) 0) := hL
  rw [← hL]
  clear hL
  go_enter Tryd.func19, Tryd.ntmps19
  go_wp2_with fail
  go_loopw [3, 4] (fun v x wr => ∃ (p n : Nat) (done : List (Int × ByteArray × Int × Nat)), x = .int .i64 p ∧ p ≤ S.size ∧ n ≤ p ∧ n = done.length ∧ Hid (AllX w wr v n done) ∧ Hid (L = done ++ allV S (S.size - n + 1) p)) (fun _ x _ => S.size - (intOf x).toNat)
  case atStart => exact ⟨0, 0, [], rfl, Nat.zero_le _, Nat.le_refl _, rfl, h0, HL⟩
  case round =>
    clear h0 HL
    obtain ⟨p, n, done, rfl, hp, hn, hnd, hst, hl⟩ := hrel
    obtain ⟨K, t, m, a, E, hT⟩ : ∃ K t m a E, nextT S p = (K, t, m, a, E) := ⟨_, _, _, _, _, rfl⟩
    obtain ⟨-, -, e3, e4⟩ := nextT_more hp hT
    have hl2 := hl.out
    rw [allV_step hT] at hl2
    have HL2 : Hid (L = done ++ (K, t, m, a) :: if K == 0 || K == 5 then [] else allV S (S.size - n) E) := hl2
    have hTp : nextT S (clampV S (p : Int)) = (K, t, m, a, E) := by rw [clamp_nat hp]; exact hT
    have CN : Hid _ := xNext (w := wr) (S := S) (by omega) (p : Int) hTp
    clear hTp
    clear hl2 hl hT
    go_wp2_with fail
    refine Calls.mono CN.out ?_
    rintro e w2 ⟨b, rfl, hbE, hB⟩
    have HBE : Hid (K ≠ 5 → b = E) := hbE
    have o2 := owns_below hst.out.own hB
    have b3 : Below w2.heap.size w2 ((w2.alloc (.cells (foundC K t m a b) 42)).alloc (.cells (tokC K t m a) 33)) := box2
    have k4 : ((w2.alloc (.cells (foundC K t m a b) 42)).alloc (.cells (tokC K t m a) 33)).heap[w2.heap.size + 1]? = some (.cells (tokC K t m a) 33) := by
      have := alloc_at (w2.alloc (.cells (foundC K t m a b) 42)) (.cells (tokC K t m a) 33)
      rwa [World.size_alloc] at this
    have hbs := b3.size
    have hos := hB.size
    have hls := hst.out.low.size
    obtain ⟨v', W5, hrun, ho, hg⟩ := run_app_tk (ty := 29) (x := (K, t, m, a)) (owns_below o2 b3) (by omega) k4 (by omega)
    obtain ⟨st5, k6⟩ := all_stepX hst.out hB ho hg
    have HS : Hid _ := st5
    have HRun : Hid _ := hrun
    obtain ⟨f1, f2, f3, f4, f5, -, -, -, -, -⟩ := found_at k6
    obtain ⟨q1, q2, q3, q4, -, -, -, -, -, -⟩ := found_at (alloc_at w2 (.cells (foundC K t m a b) 42))
    clear st5 k6 ho hg k4 b3 o2 hB hbs hos hls hrun hbE CN
    unfold foundC tokC at HRun
    unfold foundC at *
    by_cases hK0 : K = 0
    · subst hK0
      have HE : Hid (L = done ++ [(0, t, m, a)]) := HL2.out
      clear HL2 e4
      go_wp2_with (refine wp_app' rfl rfl rfl rfl HRun.out ?_)
      go_ret
      exact ⟨_, n + 1, rfl, by rw [HE.out, hnd]; simp, by rw [HE.out]; exact HS.out.own, HS.out.low⟩
    · by_cases hK5 : K = 5
      · subst hK5
        have HE : Hid (L = done ++ [(5, t, m, a)]) := HL2.out
        clear HL2 e4 hK0
        go_wp2_with (refine wp_app' rfl rfl rfl rfl HRun.out ?_)
        go_ret
        exact ⟨_, n + 1, rfl, by rw [HE.out, hnd]; simp, by rw [HE.out]; exact HS.out.own, HS.out.low⟩
      · have hpE := e4 hK0
        obtain rfl := HBE.out hK5
        have k0 : (K == 0) = false := by simpa using hK0
        have k5 : (K == 5) = false := by simpa using hK5
        have HN : Hid (L = (done ++ [(K, t, m, a)]) ++ allV S (S.size - (n + 1) + 1) b) := by
          have := HL2.out
          rw [k0, k5] at this
          show _ = _
          rw [show S.size - (n + 1) + 1 = S.size - n by omega, this, List.append_assoc]
          rfl
        clear HL2 e4 HBE
        go_wp2_with (refine wp_app' rfl rfl rfl rfl HRun.out ?_)
        exact ⟨⟨b, n + 1, done ++ [(K, t, m, a)], rfl, e3, by omega, by rw [hnd]; simp, HS, HN⟩, by simp [intOf]; omega⟩
/-- A name with nothing around it: that it begins at 0 and ends at the end. -/
theorem isName_iff {S : ByteArray} {K n : Int} {t : ByteArray} {a E : Nat} (hT : nextT S 0 = (K, t, n, a, E)) : isNameV S = (K == 2 && (a == 0 && E == S.size)) := by
  have hR : isNameV S = (K == 2 && t.toList == S.toList) := by unfold isNameV; rw [hT]
  rw [hR]
  by_cases hK : K = 2
  · obtain ⟨h1, h2, h3⟩ := nextT_tok (Nat.zero_le _) hT
    rcases h3 with ⟨hk, _⟩ | ⟨_, _, h4, h5, h6⟩
    · omega
    · congr 1
      rw [Bool.eq_iff_iff]
      simp only [beq_iff_eq, Bool.and_eq_true]
      constructor
      · intro e
        have := congrArg ByteArray.size (bytes_ext e)
        omega
      · rintro ⟨rfl, rfl⟩
        rw [ByteArray.extract_zero_size] at h6
        rw [h6]
  · have : (K == 2) = false := by simpa using hK
    rw [this]
    rfl
set_option maxRecDepth 100000 in
set_option maxHeartbeats 4000000 in
theorem xIsName {w : World} {S : ByteArray} (hS : S.size ≤ 281474976710656) :
    Calls Tryd.prog 13 #[.string S] w fun e w' => e = .returned (.bool (isNameV S)) ∧ Below w.heap.size w w' := by
  obtain ⟨K, t, n, a, E, hT⟩ : ∃ K t n a E, nextT S 0 = (K, t, n, a, E) := ⟨_, _, _, _, _, rfl⟩
  have hT0 : nextT S (clampV S 0) = (K, t, n, a, E) := by rw [clamp_zero']; exact hT
  have CN : Hid _ := xNext (w := w) (S := S) hS 0 hT0
  obtain ⟨R, hR⟩ : ∃ R, R = isNameV S := ⟨_, rfl⟩
  have HR : Hid (R = (K == 2 && (a == 0 && E == S.size))) := hR.trans (isName_iff hT)
  rw [← hR]
  clear hR hT hT0
  go_enter Tryd.func13, Tryd.ntmps13
  go_wp2_with fail
  refine Calls.mono CN.out ?_
  rintro e w2 ⟨b, rfl, hbE, hB⟩
  obtain ⟨q1, q2, q3, q4, q5, -, -, -, -, -⟩ := found_at (alloc_at w2 (.cells (foundC K t n a b) 42))
  have HBE : Hid (K ≠ 5 → b = E) := hbE
  have HB : Hid (Below w.heap.size w (w2.alloc (.cells (foundC K t n a b) 42))) := hB.alloc hB.size _
  clear hbE hB CN
  unfold foundC at *
  by_cases hK : K = 2
  · subst hK
    obtain rfl := HBE.out (by decide)
    cases h1 : ((a : Int) == 0) with
    | true =>
      cases h2 : ((b : Int) == (S.size : Int)) with
      | true =>
        have hR : R = true := by
          rw [HR.out]
          rw [beq_iff_eq] at h1 h2
          have e1 : a = 0 := by omega
          have e2 : b = S.size := by omega
          rw [e1, e2]
          simp
        subst hR
        clear HR HBE
        go_wp2_with fail
        go_ret
        exact ⟨rfl, HB.out⟩
      | false =>
        have hR : R = false := by
          rw [HR.out]
          rw [beq_eq_false_iff_ne] at h2
          have e2 : (b == S.size) = false := by rw [beq_eq_false_iff_ne]; omega
          rw [e2]
          simp
        subst hR
        clear HR HBE
        go_wp2_with fail
        go_ret
        exact ⟨rfl, HB.out⟩
    | false =>
      have hR : R = false := by
        rw [HR.out]
        rw [beq_eq_false_iff_ne] at h1
        have e2 : (a == 0) = false := by rw [beq_eq_false_iff_ne]; omega
        rw [e2]
        simp
      subst hR
      clear HR HBE
      go_wp2_with fail
      go_ret
      exact ⟨rfl, HB.out⟩
  · have e1 : (K == 2) = false := by simpa using hK
    have hR : R = false := by rw [HR.out, e1]; rfl
    subst hR
    clear HR HBE
    go_wp2_with fail
    go_ret
    exact ⟨rfl, HB.out⟩
end Go.Proofs.YtjgpojjbjgdfkaaDoor
