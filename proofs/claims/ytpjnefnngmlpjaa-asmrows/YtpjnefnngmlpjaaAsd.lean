/-
  Package asm: mayBe, size, firstFull.
-/
import Derived.Test.YtpjnefnngmlpjaaAsc
import Derived.Test.YtpjnefnngmlpjaaCoden
namespace Go.Proofs.Ytpjnefnngmlpjaa
open Go.RowKit

def jalI (d : Int) : MIns := ⟨[106, 97, 108], d, 0, 0, 0⟩
def mayIt (x : It) : Bool :=
  if x.kind = 1 ∨ x.kind = 7 ∨ x.kind = 8 then true
  else if x.kind = 2 then mayV x.ins
  else if x.kind = 3 then (!(turnL x.op.toList == [])) && (x.m == 0) && mayV x.ins
  else if x.kind = 4 ∨ x.kind = 5 ∨ x.kind = 6 then mayV (jalI x.d)
  else false
set_option maxRecDepth 100000 in
set_option maxHeartbeats 4000000 in
theorem aMay (x : It) (w : World) :
    Calls Try.prog 47 #[.agg x.cells] w fun e w' => e = .returned (.bool (mayIt x)) ∧ Below w.heap.size w w' := by
  have A1 := alloc_at w (.cells x.cells 34)
  have B1 : Hid (Below w.heap.size w (w.alloc (.cells x.cells 34))) := (Below.refl _ _).alloc (Nat.le_refl _) _
  obtain ⟨ic, _, _⟩ := cells_of A1
  have c0 := ic 0 (.int .i64 x.kind) rfl
  have c2 := ic 2 (.string x.op) rfl
  have c3 := ic 3 (.int .i64 x.d) rfl
  have c4 := ic 4 (.int .i64 x.a) rfl
  have c5 := ic 5 (.int .i64 x.b) rfl
  have c6 := ic 6 (.int .i32 x.m) rfl
  have CM : Hid _ := cMay x.op x.d x.a x.b x.m
  have CJ : Hid (∀ V : World, Calls Try.prog 73 #[.agg #[.string ⟨#[106, 97, 108]⟩, .int .i64 x.d, .int .i64 0, .int .i64 0, .int .i32 0]] V fun e w' => e = .returned (.bool (mayV (jalI x.d))) ∧ Below V.heap.size V w') := fun V => by
    have := cMay ⟨#[106, 97, 108]⟩ x.d 0 0 0 V
    rw [ByteArray.toList_eq] at this
    exact this
  have CT : Hid _ := aTurned x.op
  clear ic A1
  unfold mayIt
  by_cases k1 : x.kind = 1 ∨ x.kind = 7 ∨ x.kind = 8
  · rw [if_pos k1]
    rcases k1 with k | k | k
    all_goals
      go_enter Try.func47, Try.ntmps47
      go_wp2
      go_ret
      exact ⟨rfl, B1.out⟩
  rw [if_neg k1]
  by_cases k2 : x.kind = 2
  · rw [if_pos k2]
    go_enter Try.func47, Try.ntmps47
    go_wp2_with fail
    refine (CM.out _).mono ?_
    rintro e w1 ⟨rfl, b1⟩
    have B2 : Hid _ := below_step B1.out b1
    clear b1 B1
    go_wp2
    go_ret
    exact ⟨rfl, B2.out⟩
  rw [if_neg k2]
  by_cases k3 : x.kind = 3
  · rw [if_pos k3]
    rcases htl : turnL x.op.toList with _ | ⟨y, ys⟩
    · rw [htl] at CT
      rw [show (!(([] : List UInt8) == [])) = false from rfl, Bool.false_and, Bool.false_and]
      clear htl
      go_enter Try.func47, Try.ntmps47
      go_wp2_with fail
      refine (CT.out _).mono ?_
      rintro e w1 ⟨rfl, hw1⟩
      rw [hw1]
      clear hw1 w1
      go_wp2
      go_ret
      exact ⟨rfl, B1.out⟩
    · rw [htl] at CT
      rw [show (!((y :: ys : List UInt8) == [])) = true from rfl, Bool.true_and]
      have hs2 : ((⟨(y :: ys).toArray⟩ : ByteArray).toList == []) = false := by rw [ByteArray.toList_eq]; rfl
      generalize (⟨(y :: ys).toArray⟩ : ByteArray) = s2 at *
      clear htl
      by_cases hm : x.m = 0
      · have hmb : (x.m == 0) = true := by simp [hm]
        rw [hmb, Bool.true_and]
        have E0 : Hid (mayV x.ins = mayV ⟨x.op.toList, x.d, x.a, x.b, 0⟩) := by
          unfold It.ins
          rw [hm]
          exact rfl
        rw [E0.out]
        rw [hm] at CM
        go_enter Try.func47, Try.ntmps47
        go_wp2_with fail
        refine (CT.out _).mono ?_
        rintro e w1 ⟨rfl, hw1⟩
        rw [hw1]
        clear hw1 w1
        go_wp2_with fail
        refine (CM.out _).mono ?_
        rintro e w1 ⟨rfl, b1⟩
        have B2 : Hid _ := below_step B1.out b1
        clear b1 B1
        go_wp2
        go_ret
        exact ⟨rfl, B2.out⟩
      · have hmb : (x.m == 0) = false := by simp [hm]
        rw [hmb, Bool.false_and]
        go_enter Try.func47, Try.ntmps47
        go_wp2_with fail
        refine (CT.out _).mono ?_
        rintro e w1 ⟨rfl, hw1⟩
        rw [hw1]
        clear hw1 w1
        go_wp2
        go_ret
        exact ⟨rfl, B1.out⟩
  rw [if_neg k3]
  by_cases k4 : x.kind = 4 ∨ x.kind = 5 ∨ x.kind = 6
  · rw [if_pos k4]
    rcases k4 with k | k | k
    all_goals
      go_enter Try.func47, Try.ntmps47
      go_wp2_with fail
      refine (CJ.out _).mono ?_
      rintro e w1 ⟨rfl, b1⟩
      have B2 : Hid _ := below_step B1.out b1
      clear b1 B1
      go_wp2
      go_ret
      exact ⟨rfl, B2.out⟩
  rw [if_neg k4]
  have b1 : (x.kind == 1) = false := by simp; omega
  have b2 : (x.kind == 2) = false := by simp; omega
  have b3 : (x.kind == 3) = false := by simp; omega
  have b4 : (x.kind == 4) = false := by simp; omega
  have b5 : (x.kind == 5) = false := by simp; omega
  have b6 : (x.kind == 6) = false := by simp; omega
  have b7 : (x.kind == 7) = false := by simp; omega
  have b8 : (x.kind == 8) = false := by simp; omega
  clear k1 k2 k3 k4
  go_enter Try.func47, Try.ntmps47
  go_wp2
  go_ret
  exact ⟨rfl, B1.out⟩
end Go.Proofs.Ytpjnefnngmlpjaa
