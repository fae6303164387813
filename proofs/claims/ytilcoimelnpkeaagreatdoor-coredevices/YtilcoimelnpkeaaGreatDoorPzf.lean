/-
  Contracts of functions that the statement reaches, and what they are made of, callees first.
-/
import Derived.Test.YtilcoimelnpkeaaGreatDoorPza
import Derived.Test.YtilcoimelnpkeaaGreatDoorPzd
import Derived.Test.YtilcoimelnpkeaaGreatDoorPze
import Derived.Test.YtilcoimelnpkeaaGreatDoorPzo
set_option maxRecDepth 100000
set_option maxHeartbeats 8000000
namespace Go.Proofs.YtilcoimelnpkeaaGreatDoor
open Go.RowKit
theorem get_mem {x:Int} {i:MIns} (h:getV x=some i):∃ q,q∈z3w∧hasB q.2 x=true∧i=z8i q x:=by
 unfold getV at h
 cases hq:z3w.find? (fun q=>hasB q.2 x) with
 | none=>rw[hq] at h;cases h
 | some q=>
  rw[hq] at h
  injection h with h
  exact⟨q,List.mem_of_find?_eq_some hq,by have:=List.find?_some hq;exact this,h.symm⟩
theorem z8s {x:Int} {i:MIns} (h:getV x=some i):(i.op,z0q i.op)∈z3w:=by
 obtain⟨q,h1,_,rfl⟩:=get_mem h
 show (q.1,z0q q.1)∈z3w
 rw[z4s h1]
 exact h1
theorem get_fields {x:Int} {i:MIns} (hx:U32 x) (h:getV x=some i):(0≤i.d∧i.d<32)∧(0≤i.a∧i.a<32)∧(0≤i.b∧i.b<32)∧((z0q i.op).k=67→0≤i.m∧i.m<4096):=by
 obtain⟨q,h1,_,rfl⟩:=get_mem h
 obtain⟨x0,x1⟩:=hx
 refine⟨?_,?_,?_,?_⟩
 ·show 0≤z2h q.2.k x∧z2h q.2.k x<32
  unfold z2h;split <;> omega
 ·show 0≤z2j q.2.k x∧z2j q.2.k x<32
  unfold z2j;split <;> omega
 ·show 0≤z2i q.2.k x∧z2i q.2.k x<32
  unfold z2i;split <;> omega
 ·intro hk
  have hk:q.2.k=67:=by rw[← z4s h1];exact hk
  show 0≤z2a q.2.k x∧z2a q.2.k x<4096
  unfold z2a
  rw[hk]
  simp
  omega
theorem z2l (l:List Int) (p n:Int):U32 (z1l l p n false):=z4n _ _ _
theorem rKindC (s:ByteArray) (k o g f:Int) (hp:z0q s.toList=⟨k,o,g,f⟩) (w:World) :
  Calls Tryz.prog 10 #[.string s] w fun e w'=>e=.returned (.int .u8 k)∧Below w.heap.size w w':=by
 have C1:Hid _:=z2v s k o g f hp
 have hk:=fldk (.int .u8 k) (.int .u32 o) (.int .u32 g) (.int .u32 f)
 go_enter Tryz.func10,Tryz.ntmps10
 go_wp2_with fail
 refine (C1.out _).mono ?_
 rintro e w1 ⟨rfl,hw1⟩
 have B1:Below w.heap.size w w1:=by rw[hw1];exact (Below.refl _ _).alloc (Nat.le_refl _) _
 clear hw1
 go_wp2
 go_ret
 exact⟨rfl,B1⟩
def others:List (List UInt8):=[[108,117,105],[97,117,105,112,99],[106,97,108],[106,97,108,114],[98,101,113],[98,110,101],[98,108,116],[98,103,101],[98,108,116,117],[98,103,101,117],[108,98],[108,104],[108,119],[108,98,117],[108,104,117],[115,98],[115,104],[115,119],[99,115,114,114,119],[99,115,114,114,115],[99,115,114,114,99],[109,114,101,116],[119,102,105],[102,101,110,99,101],[101,99,97,108,108],[101,98,114,101,97,107]]
end Go.Proofs.YtilcoimelnpkeaaGreatDoor
