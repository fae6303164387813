/-
  The document's example holds, as the statements ask it.
-/
import Derived.Test.YtbdfaepljgajbaaCodeu
import Derived.Test.YtbdfaepljgajbaaCodey
namespace Go.Proofs.Ytbdfaepljgajbaa
open Go.RowKit

theorem told_some {x : Int} {i : MIns} {s t : ByteArray} {d a b m : Int} {ok : Bool} (h : toldOf x s d a b m ok) (hv : getV x = some i) (ht : i.op = t.toList) : s = t ∧ d = i.d ∧ a = i.a ∧ b = i.b ∧ m = i.m ∧ ok = true := by
  rcases h with ⟨rfl, h⟩ | ⟨rfl, _, _, _, _, _, h⟩
  · rw [hv] at h
    injection h with h
    subst h
    exact ⟨bytes_ext ht, rfl, rfl, rfl, rfl, rfl⟩
  · rw [hv] at h; cases h

set_option maxRecDepth 100000 in
set_option maxHeartbeats 2000000 in
theorem cawake (w : World) :
    Calls Try.prog 15 #[] w fun e w' => e = .returned (.bool true) ∧ Below w.heap.size w w' := by
  have CP : Hid _ := cPut ⟨#[97, 100, 100, 105]⟩ 1 0 0 5
  have e1 : putN ⟨(⟨#[97, 100, 100, 105]⟩ : ByteArray).toList, 1, 0, 0, 5⟩ = 5243027 := by decide +kernel
  have e2 : putE ⟨(⟨#[97, 100, 100, 105]⟩ : ByteArray).toList, 1, 0, 0, 5⟩ = 0 := by decide +kernel
  rw [e1, e2] at CP
  obtain ⟨s, d, a, b, m, ok, ht, CG0⟩ := cGet 5243027 ⟨by omega, by omega⟩
  have hmv : mayV ⟨(⟨#[97, 100, 100, 105]⟩ : ByteArray).toList, 1, 0, 0, 5⟩ = true := by decide +kernel
  have hpv : putV ⟨(⟨#[97, 100, 100, 105]⟩ : ByteArray).toList, 1, 0, 0, 5⟩ = 5243027 := by decide +kernel
  have hv : getV 5243027 = some ⟨(⟨#[97, 100, 100, 105]⟩ : ByteArray).toList, 1, 0, 0, 5⟩ := by rw [← hpv]; exact get_put hmv
  obtain ⟨rfl, rfl, rfl, rfl, rfl, rfl⟩ := told_some ht hv rfl
  have CG : Hid _ := CG0
  have CE : Hid _ := cerr 0
  clear e1 e2 hv hmv hpv ht CG0
  simp only [if_true] at CG
  go_enter Try.func15, Try.ntmps15
  go_wp2_with fail
  refine (CP.out _).mono ?_
  rintro e w1 ⟨rfl, hb1⟩
  have H1 : Hid _ := hb1
  clear hb1
  go_wp2_with fail
  refine (CG.out _).mono ?_
  rintro e w2 ⟨rfl, hb2⟩
  have H2 : Hid (Below w.heap.size w w2) := below_step H1.out hb2
  clear hb2
  go_wp2_with fail
  refine (CE.out _).mono ?_
  rintro e w' ⟨rfl, rfl⟩
  go_wp2_with fail
  refine (CE.out _).mono ?_
  rintro e w' ⟨rfl, rfl⟩
  go_wp2
  go_ret
  exact ⟨rfl, H2.out.alloc H2.out.size _⟩
end Go.Proofs.Ytbdfaepljgajbaa
