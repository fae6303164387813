/-
  LexMade, LexAll: the tokens of a source are the document's.
-/
import Derived.Test.YtjgpojjbjgdfkaaDoorLtc
namespace Go.Proofs.YtjgpojjbjgdfkaaDoor
open Go.RowKit

set_option maxRecDepth 100000 in
set_option maxHeartbeats 4000000 in
theorem lexMade (sa : Option Addr) (n cap : Nat) (zs : List Int) (at' : Int) (w : World)
    (hz : (sa = none ∧ n = 0 ∧ cap = 0 ∧ zs = []) ∨ ∃ p, sa = some p ∧ n ≤ cap ∧ cap ≤ maxLen ∧ zs.length = cap ∧ (∀ i, i < zs.length → w.cell? (p.add i) = some (.int .u8 (zs.getD i 0))) ∧ ∀ z ∈ zs, (Lit.int .u8 z).wf = true)
    (ha : (Lit.int .u8 at').wf = true) (he : ∃ ev, w.cell? ⟨1, 0, none⟩ = some ev ∧ (ev = .nilIface ∨ ∃ te pe, ev = .iface te pe)) :
    Calls Tryd.prog 4 #[.slice sa n cap, .int .u8 at'] w fun e w' => e = .returned (.bool true) ∧ Below w.heap.size w w' := by
  obtain ⟨b, off, h1, h2, h3⟩ := came_u8 hz
  obtain ⟨ev, hv, hev⟩ := he
  obtain ⟨z0, z1⟩ := bounds_u8 ha
  have hlt : 1 < w.heap.size := Lib.lt_of_cell hv
  have HV : Hid (∀ W, Below w.heap.size w W → W.cell? ⟨1, 0, none⟩ = some ev) := fun W hb => (hb.cell (p := ⟨1, 0, none⟩) hlt).trans hv
  have HE : Hid _ := hev
  have C : Hid _ := tText sa n cap zs w b off h1 h2 h3
  clear h1 h2 h3 hz ha hv hev hlt
  go_enter Tryd.func4, Tryd.ntmps4
  go_wp2_with fail
  refine Calls.mono C.out ?_
  rintro e w1 ⟨S, rfl, hS, b1⟩
  have B1 : Hid (Below w.heap.size w w1) := b1
  have HS : Hid (S.size ≤ 1000) := by show _ ≤ _; omega
  clear C hS b1
  go_wp2_with fail
  refine Calls.mono (tIs HS.out at' ev (HV.out _ B1.out) HE.out) ?_
  rintro e w2 ⟨rfl, b2⟩
  have B2 : Hid (Below w.heap.size w w2) := B1.out.trans (b2.mono B1.out.size)
  clear b2
  go_wp2_with fail
  refine Calls.mono (tAwake ev (HV.out _ B2.out) HE.out) ?_
  rintro e w3 ⟨rfl, b3⟩
  have B3 : Hid (Below w.heap.size w w3) := B2.out.trans (b3.mono B2.out.size)
  clear b3
  go_wp2_with fail
  go_ret
  exact ⟨rfl, B3.out⟩
set_option maxRecDepth 100000 in
set_option maxHeartbeats 4000000 in
theorem lexAll (S : ByteArray) (at' : Int) (s : ByteArray) (w : World) (he : ∃ ev, w.cell? ⟨1, 0, none⟩ = some ev ∧ (ev = .nilIface ∨ ∃ te pe, ev = .iface te pe)) :
    Calls Tryd.prog 3 #[.string S, .int .i64 at', .string s] w fun e w' => e = .returned (.bool true) ∧ Below w.heap.size w w' := by
  obtain ⟨ev, hv, hev⟩ := he
  have hlt : 1 < w.heap.size := Lib.lt_of_cell hv
  have HV : Hid (∀ W, Below w.heap.size w W → W.cell? ⟨1, 0, none⟩ = some ev) := fun W hb => (hb.cell (p := ⟨1, 0, none⟩) hlt).trans hv
  have HE : Hid _ := hev
  have CA : Hid (∀ W, Below w.heap.size w W → Calls Tryd.prog 8 #[] W fun e w' => e = .returned (.bool true) ∧ Below w.heap.size w w') := fun W hb => (tAwake ev (HV.out _ hb) hev).mono fun e w' ⟨h1, h2⟩ => ⟨h1, hb.trans (h2.mono hb.size)⟩
  clear hv hev hlt
  by_cases h1 : (1000 : Int) < (S.size : Int)
  · go_enter Tryd.func3, Tryd.ntmps3
    go_wp2_with fail
    refine Calls.mono (CA.out _ (Below.refl _ _)) ?_
    rintro e w1 ⟨rfl, b1⟩
    go_wp2
    go_ret
    exact ⟨rfl, b1⟩
  · have d1 : decide ((1000 : Int) < (S.size : Int)) = false := decide_eq_false h1
    by_cases h2 : (60 : Int) < (s.size : Int)
    · go_enter Tryd.func3, Tryd.ntmps3
      go_wp2_with fail
      refine Calls.mono (CA.out _ (Below.refl _ _)) ?_
      rintro e w1 ⟨rfl, b1⟩
      go_wp2
      go_ret
      exact ⟨rfl, b1⟩
    · have d2 : decide ((60 : Int) < (s.size : Int)) = false := decide_eq_false h2
      have CI : Hid _ := tIs (w := w) (S := S) (by omega) at' ev (HV.out _ (Below.refl _ _)) HE.out
      have CW : Hid _ := lIsWord s
      have CX : Hid _ := xIsWord s
      have CN : Hid (∀ W, Below w.heap.size w W → Calls Tryd.prog 12 #[.string s] W fun e w' => e = .returned (.bool (isNameV s)) ∧ Below w.heap.size w w') := fun W hb => (lIsName (by omega) ev (HV.out _ hb) HE.out).mono fun e w' ⟨h1, h2⟩ => ⟨h1, hb.trans (h2.mono hb.size)⟩
      have CM : Hid (∀ W, Calls Tryd.prog 13 #[.string s] W fun e w' => e = .returned (.bool (isNameV s)) ∧ Below W.heap.size W w') := fun W => xIsName (w := W) (by omega)
      generalize isWordV s = iw at *
      generalize isNameV s = im at *
      clear h1 h2 HV HE
      go_enter Tryd.func3, Tryd.ntmps3
      go_wp2_with fail
      refine Calls.mono CI.out ?_
      rintro e w1 ⟨rfl, b1⟩
      have B1 : Hid _ := b1
      clear b1 CI
      go_wp2_with fail
      refine Calls.mono (CW.out _) ?_
      rintro e w1' ⟨rfl, hw⟩
      rw [hw]
      clear hw w1'
      go_wp2_with fail
      refine Calls.mono (CX.out _) ?_
      rintro e w2 ⟨rfl, b2⟩
      have B2 : Hid (Below w.heap.size w w2) := B1.out.trans (b2.mono B1.out.size)
      clear b2 B1
      go_wp2_with fail
      refine Calls.mono (CN.out _ B2.out) ?_
      rintro e w3 ⟨rfl, b3⟩
      have B3 : Hid (Below w.heap.size w w3) := b3
      clear b3 B2
      go_wp2_with fail
      refine Calls.mono (CM.out _) ?_
      rintro e w4 ⟨rfl, b4⟩
      have B4 : Hid (Below w.heap.size w w4) := B3.out.trans (b4.mono B3.out.size)
      clear b4 B3
      go_wp2_with fail
      refine Calls.mono (CA.out _ B4.out) ?_
      rintro e w5 ⟨rfl, b5⟩
      have B5 : Hid _ := b5
      clear b5
      go_wp2_with fail
      go_ret
      exact ⟨rfl, B5.out⟩
end Go.Proofs.YtjgpojjbjgdfkaaDoor
