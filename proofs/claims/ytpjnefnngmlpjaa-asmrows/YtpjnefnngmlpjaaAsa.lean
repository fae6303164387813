/-
  Items of package asm as plain data; its smallest functions: turned, isShort, mayBe.
-/
import Derived.Test.YtpjnefnngmlpjaaCodep
import Derived.Test.YtpjnefnngmlpjaaCodeb
import Derived.Test.YtpjnefnngmlpjaaFill
import Derived.Test.YtpjnefnngmlpjaaHeld
namespace Go.Proofs.Ytpjnefnngmlpjaa
open Go.RowKit

/-- An item: its kind, its name, its instruction, its number, its words (a slice). -/
structure It where
  kind : Int
  name : ByteArray
  op : ByteArray
  d : Int
  a : Int
  b : Int
  m : Int
  n : Int
  wa : Option Addr
  wl : Nat
  wc : Nat
def It.cells (x : It) : Array Value := #[.int .i64 x.kind, .string x.name, .string x.op, .int .i64 x.d, .int .i64 x.a, .int .i64 x.b, .int .i32 x.m, .int .u32 x.n, .slice x.wa x.wl x.wc]
def It.ins (x : It) : MIns := ⟨x.op.toList, x.d, x.a, x.b, x.m⟩
theorem It.size (x : It) : x.cells.size = 9 := rfl
theorem It.one (x : It) : x.cells.all (·.oneCell') = true := by simp [It.cells, Value.oneCell']
theorem infoIt : (Try.prog.info? 34).map (·.size) = some 9 := by kernel_rfl
theorem undIt : ∃ fs, Try.prog.underlying 34 = some (.struct fs) := ⟨_, Try.underlying34⟩
theorem infoIn : (Try.prog.info? 31).map (·.size) = some 5 := by kernel_rfl
theorem undIn : ∃ fs, Try.prog.underlying 31 = some (.struct fs) := ⟨_, Try.underlying31⟩
def turnL (l : List UInt8) : List UInt8 :=
  if (l == [98, 101, 113]) = true then [98, 110, 101] else
  if (l == [98, 110, 101]) = true then [98, 101, 113] else
  if (l == [98, 108, 116]) = true then [98, 103, 101] else
  if (l == [98, 103, 101]) = true then [98, 108, 116] else
  if (l == [98, 108, 116, 117]) = true then [98, 103, 101, 117] else
  if (l == [98, 103, 101, 117]) = true then [98, 108, 116, 117] else []
set_option maxHeartbeats 2000000 in
theorem aTurned (s : ByteArray) (w : World) : Calls Try.prog 74 #[.string s] w fun e w' => e = .returned (.string ⟨(turnL s.toList).toArray⟩) ∧ w' = w := by
  unfold turnL
  by_cases h0 : (s.toList == [98, 101, 113]) = true
  · rw [if_pos h0]
    go_enter Try.func74, Try.ntmps74
    go_wp2
    go_ret
    exact ⟨rfl, rfl⟩
  rw [if_neg h0]
  rw [Bool.not_eq_true] at h0
  by_cases h1 : (s.toList == [98, 110, 101]) = true
  · rw [if_pos h1]
    go_enter Try.func74, Try.ntmps74
    go_wp2
    go_ret
    exact ⟨rfl, rfl⟩
  rw [if_neg h1]
  rw [Bool.not_eq_true] at h1
  by_cases h2 : (s.toList == [98, 108, 116]) = true
  · rw [if_pos h2]
    go_enter Try.func74, Try.ntmps74
    go_wp2
    go_ret
    exact ⟨rfl, rfl⟩
  rw [if_neg h2]
  rw [Bool.not_eq_true] at h2
  by_cases h3 : (s.toList == [98, 103, 101]) = true
  · rw [if_pos h3]
    go_enter Try.func74, Try.ntmps74
    go_wp2
    go_ret
    exact ⟨rfl, rfl⟩
  rw [if_neg h3]
  rw [Bool.not_eq_true] at h3
  by_cases h4 : (s.toList == [98, 108, 116, 117]) = true
  · rw [if_pos h4]
    go_enter Try.func74, Try.ntmps74
    go_wp2
    go_ret
    exact ⟨rfl, rfl⟩
  rw [if_neg h4]
  rw [Bool.not_eq_true] at h4
  by_cases h5 : (s.toList == [98, 103, 101, 117]) = true
  · rw [if_pos h5]
    go_enter Try.func74, Try.ntmps74
    go_wp2
    go_ret
    exact ⟨rfl, rfl⟩
  rw [if_neg h5]
  rw [Bool.not_eq_true] at h5
  go_enter Try.func74, Try.ntmps74
  go_wp2
  go_ret
  exact ⟨rfl, rfl⟩
end Go.Proofs.Ytpjnefnngmlpjaa
