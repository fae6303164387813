/-
  Contracts of functions that the statement reaches, and what they are made of, callees first.
-/
import Derived.Test.YtbmnmbkgdalkcaaGreatDoorPzInsq
import Derived.Test.YtbmnmbkgdalkcaaGreatDoorPza
import Derived.Test.YtbmnmbkgdalkcaaGreatDoorPzb
import Derived.Test.YtbmnmbkgdalkcaaGreatDoorPzq
set_option maxRecDepth 100000
set_option maxHeartbeats 8000000
namespace Go.Proofs.YtbmnmbkgdalkcaaGreatDoor
open Go.RowKit
theorem word_u {zs:List Int} (h:∀ z∈zs,U32 z) (i:Nat):U32 (z0p zs i):=by
 unfold z0p
 rw[List.getD_eq_getElem?_getD]
 cases hq:zs[i]? with
 | none=>exact⟨by decide,by decide⟩
 | some z=>exact h z (List.mem_of_getElem? hq)
theorem putN_u (i:MIns):U32 (putN i):=by
 unfold putN
 split
 ·rename_i h;exact put_u32 h
 ·exact⟨by decide,by decide⟩
theorem fldW (v e:Value) (w:World):(Instr.field 81 (.agg #[v,e]) 0).run Tryz.prog w=.ok v w:=by kernel_rfl
theorem kWord (s:ByteArray) (d a b m:Int) (w:World) :
  Calls Tryz.prog 20 #[.agg #[.string s,.int .i64 d,.int .i64 a,.int .i64 b,.int .i32 m]] w fun e w'=>e=.returned (.int .u32 (putN ⟨s.toList,d,a,b,m⟩))∧Below w.heap.size w w':=by
 have CP:Hid _:=rPut s d a b m
 have fd:=fldW
 generalize putN ⟨s.toList,d,a,b,m⟩=x at *
 generalize putE ⟨s.toList,d,a,b,m⟩=e at *
 go_enter Tryz.func20,Tryz.ntmps20
 go_wp2_with fail
 refine (CP.out _).mono ?_
 rintro e1 w1 ⟨rfl,b1⟩
 have B1:=z1u b1
 go_wp2
 go_ret
 exact⟨rfl,B1⟩
end Go.Proofs.YtbmnmbkgdalkcaaGreatDoor
