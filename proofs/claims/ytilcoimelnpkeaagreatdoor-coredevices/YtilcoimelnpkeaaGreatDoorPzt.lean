/-
  Contracts of functions that the statement reaches, and what they are made of, callees first.
-/
import Derived.Test.YtilcoimelnpkeaaGreatDoorPzq
import Derived.Test.YtilcoimelnpkeaaGreatDoorPzs
set_option maxRecDepth 100000
set_option maxHeartbeats 8000000
namespace Go.Proofs.YtilcoimelnpkeaaGreatDoor
open Go.RowKit
theorem insC_addi (s:CS) (l:List Int) (es:List Ev) (d a b:Nat) (m x:Int):insC s l es ⟨[97,100,100,105],d,a,b,m⟩ x=(opS s [97,100,100] d (s.f a) (m%4294967296) 1,l,es):=rfl
def devI (k:Nat):MIns:=if k=0 then ⟨[115,119],0,1,2,0⟩ else if k=1 then ⟨[115,119],0,3,4,0⟩ else if k=2 then ⟨[115,119],0,5,6,0⟩ else ⟨[115,119],0,7,6,0⟩
def devW:List Int:=[putN (devI 0),putN (devI 1),putN (devI 2),putN (devI 3)]
theorem devW_u (j:Nat):U32 (z0p devW j):=word_u (fun z hz=>by
 unfold devW at hz
 simp only[List.mem_cons,List.not_mem_nil,or_false] at hz
 rcases hz with rfl | rfl | rfl | rfl <;> exact⟨by decide +kernel,by decide +kernel⟩) j
theorem devW_at (k:Nat) (hk:k<4):getV (z0p devW k)=some (devI k)∧z7b (devI k)=false:=by
 rcases (by omega:k=0∨k=1∨k=2∨k=3) with rfl | rfl | rfl | rfl
 ·exact⟨get_putN (i:=devI 0) (by decide +kernel),by decide +kernel⟩
 ·exact⟨get_putN (i:=devI 1) (by decide +kernel),by decide +kernel⟩
 ·exact⟨get_putN (i:=devI 2) (by decide +kernel),by decide +kernel⟩
 ·exact⟨get_putN (i:=devI 3) (by decide +kernel),by decide +kernel⟩
def devF (i y n:Int):Nat→Int:=set1 (set1 (set1 (set1 (set1 (set1 (set1 (fun _=>0) 1 1073741828) 2 i) 3 1073741832) 4 y) 5 1073741836) 6 n) 7 1073741840
structure DevIn (i y n:Int) (k:Nat) (s:CS):Prop where
 stop:s.stop=false
 set:s.set=false
 u:s.u=false
 pc:s.f 32=4*(k:Int)
 regs:∀ j,j<32→s.f j=devF i y n j
theorem dev_put {i y n:Int} {s:CS} (h1:s.stop=false) (h2:s.set=false):DevIn i y n 0 { s with f:=set1 (devF i y n) 0 0,u:=false }:=by
 refine⟨h1,h2,rfl,rfl,fun j _=>?_⟩
 show set1 (devF i y n) 0 0 j=_
 unfold set1
 split
 ·rename_i h;rw[h];rfl
 ·rfl
theorem dev_ins {i y n:Int} {k:Nat} {s:CS} (h:DevIn i y n k s) (hk:k<4) (es:List Ev):z3i [] s devW es=x0C (insC (z2t s) devW es (devI k) (z0p devW k)):=
 step_ins (k:=k) h.stop (timer_off h.set) devW_u h.pc hk (lets_not h.u _ _ _) (devW_at k hk).1 (by rw[h.u];rfl)
theorem dev_on {i y n:Int} {k:Nat} {s s':CS} (h:DevIn i y n k s) (hk:k<4) (hf:s'.f=s.f) (hu:s'.u=s.u) (hs:s'.set=s.set) (hp:s'.stop=false) (es:List Ev):DevIn i y n (k+1) (x0C (onS s',devW,es)).1:=by
 refine⟨hp,hs.trans h.set,hu.trans h.u,?_,fun j hj=>?_⟩
 ·show (s'.f 32+4)%4294967296=_
  rw[hf,h.pc]
  push_cast
  omega
 ·show set1 (set1 s'.f 32 _) 0 0 j=_
  unfold set1
  by_cases h0:j=0
  ·rw[if_pos h0,h0];rfl
  ·rw[if_neg h0,if_neg (by omega),hf]
   exact h.regs j hj
theorem dev_task {i y n:Int} {s:CS} (h:DevIn i y n 0 s) (es:List Ev):∃ s',z3i [] s devW es=(s',devW,es)∧DevIn i y n 1 s'∧s'.task=i:=by
 have r1:(z2t s).f 1=1073741828:=h.regs 1 (by decide)
 have r2:(z2t s).f 2=i:=h.regs 2 (by decide)
 have hu:(z2t s).u=false:=h.u
 rw[dev_ins h (by decide),show devI 0=⟨[115,119],(0:Nat),(1:Nat),(2:Nat),0⟩ from rfl,insC_sw,r1,r2]
 have e:z4z (z2t s) devW es (((1073741828:Int)+0%4294967296)%4294967296) 4 i=(onS { z2t s with lat:=1073741828,task:=i },devW,es):=by
  unfold z4z
  rw[if_neg (by decide),if_neg (fun e=>by have:=e.2.2;revert this;decide),if_pos ⟨hu,rfl,by decide⟩]
 rw[e]
 exact⟨_,rfl,dev_on (s':={ z2t s with lat:=1073741828,task:=i }) h (by decide) rfl rfl rfl h.stop es,rfl⟩
theorem dev_kind {i y n:Int} {s:CS} (h:DevIn i y n 1 s) (es:List Ev):∃ s',z3i [] s devW es=(s',devW,es)∧DevIn i y n 2 s'∧s'.task=s.task∧s'.kind=y:=by
 have r1:(z2t s).f 3=1073741832:=h.regs 3 (by decide)
 have r2:(z2t s).f 4=y:=h.regs 4 (by decide)
 have hu:(z2t s).u=false:=h.u
 rw[dev_ins h (by decide),show devI 1=⟨[115,119],(0:Nat),(3:Nat),(4:Nat),0⟩ from rfl,insC_sw,r1,r2]
 have e:z4z (z2t s) devW es (((1073741832:Int)+0%4294967296)%4294967296) 4 y=(onS { z2t s with lat:=1073741832,kind:=y },devW,es):=by
  unfold z4z
  rw[if_neg (by decide),if_neg (fun e=>by have:=e.2.2;revert this;decide),if_neg (fun e=>by have:=e.2.2;revert this;decide),if_pos ⟨hu,rfl,by decide⟩]
 rw[e]
 exact⟨_,rfl,dev_on (s':={ z2t s with lat:=1073741832,kind:=y }) h (by decide) rfl rfl rfl h.stop es,rfl,rfl⟩
theorem dev_say {i y n:Int} {s:CS} (h:DevIn i y n 2 s) (es:List Ev):∃ s',z3i [] s devW es=(s',devW,es++[⟨s.task,s.kind,n⟩])∧DevIn i y n 3 s':=by
 have r1:(z2t s).f 5=1073741836:=h.regs 5 (by decide)
 have r2:(z2t s).f 6=n:=h.regs 6 (by decide)
 have hu:(z2t s).u=false:=h.u
 rw[dev_ins h (by decide),show devI 2=⟨[115,119],(0:Nat),(5:Nat),(6:Nat),0⟩ from rfl,insC_sw,r1,r2]
 have e:z4z (z2t s) devW es (((1073741836:Int)+0%4294967296)%4294967296) 4 n=(onS { z2t s with lat:=1073741836 },devW,es++[⟨s.task,s.kind,n⟩]):=by
  unfold z4z
  rw[if_neg (by decide),if_neg (fun e=>by have:=e.2.2;revert this;decide),if_neg (fun e=>by have:=e.2.2;revert this;decide),if_neg (fun e=>by have:=e.2.2;revert this;decide),if_pos ⟨hu,rfl,by decide⟩]
  rfl
 rw[e]
 exact⟨_,rfl,dev_on (s':={ z2t s with lat:=1073741836 }) h (by decide) rfl rfl rfl h.stop es⟩
theorem dev_stop {i y n:Int} {s:CS} (h:DevIn i y n 3 s) (es:List Ev):∃ s',z3i [] s devW es=(s',devW,es)∧s'.stop=true:=by
 have r1:(z2t s).f 7=1073741840:=h.regs 7 (by decide)
 have hu:(z2t s).u=false:=h.u
 rw[dev_ins h (by decide),show devI 3=⟨[115,119],(0:Nat),(7:Nat),(6:Nat),0⟩ from rfl,insC_sw,r1]
 have e:z4z (z2t s) devW es (((1073741840:Int)+0%4294967296)%4294967296) 4 ((z2t s).f 6)=(onS { z2t s with lat:=1073741840,stop:=true },devW,es):=by
  unfold z4z
  rw[if_neg (by decide),if_neg (fun e=>by have:=e.2.2;revert this;decide),if_neg (fun e=>by have:=e.2.2;revert this;decide),if_neg (fun e=>by have:=e.2.2;revert this;decide),if_neg (fun e=>by have:=e.2.2;revert this;decide),if_pos ⟨hu,rfl,by decide⟩]
 rw[e]
 exact⟨_,rfl,rfl⟩
theorem step_stopped {late:List Int} {s:CS} {l:List Int} {es:List Ev} (h:s.stop=true):z3i late s l es=(s,l,es):=by
 unfold z3i
 rw[if_pos h]
def addW:Int:=putN ⟨[97,100,100,105],1,1,0,1⟩
def timA:Nat→List Int
 | 0=>List.replicate 40 (0:Int)
 | k+1=>(timA k).set k addW
def jalW:Int:=putN ⟨[106,97,108],0,0,0,-32⟩
def swW:Int:=putN ⟨[115,119],0,2,3,0⟩
def mretW:Int:=putN ⟨[109,114,101,116],0,0,0,0⟩
def timW:List Int:=(((timA 8).set 8 jalW).set 20 swW).set 21 mretW
theorem timA_len:∀ k,(timA k).length=40
 | 0=>List.length_replicate
 | k+1=>(List.length_set).trans (timA_len k)
theorem timW_len:timW.length=40:=by decide +kernel
theorem timW_u:∀ j,U32 (z0p timW j):=by
 have h:∀ z∈timW,0≤z∧z<4294967296:=by decide +kernel
 exact word_u fun z hz=>⟨(h z hz).1,(h z hz).2⟩
theorem timW_addi (k:Nat) (hk:k<8):getV (z0p timW k)=some ⟨[97,100,100,105],1,1,0,1⟩:=by
 have e:z0p timW k=putN ⟨[97,100,100,105],1,1,0,1⟩:=by
  rcases (by omega:k=0∨k=1∨k=2∨k=3∨k=4∨k=5∨k=6∨k=7) with rfl | rfl | rfl | rfl | rfl | rfl | rfl | rfl <;> rfl
 rw[e]
 exact get_putN (by decide +kernel)
theorem timW_jal:getV (z0p timW 8)=some ⟨[106,97,108],0,0,0,-32⟩:=by
 rw[show z0p timW 8=putN ⟨[106,97,108],0,0,0,-32⟩ by kernel_rfl]
 exact get_putN (by decide +kernel)
theorem timW_sw:getV (z0p timW 20)=some ⟨[115,119],0,2,3,0⟩:=by
 rw[show z0p timW 20=putN ⟨[115,119],0,2,3,0⟩ by kernel_rfl]
 exact get_putN (by decide +kernel)
theorem timW_mret:getV (z0p timW 21)=some ⟨[109,114,101,116],0,0,0,0⟩:=by
 rw[show z0p timW 21=putN ⟨[109,114,101,116],0,0,0,0⟩ by kernel_rfl]
 exact get_putN (by decide +kernel)
def timF (st ie after:Int):Nat→Int:=set1 (set1 (set1 (set1 (set1 (set1 (set1 (fun _=>0) 32 80) 36 128) 34 st) 35 ie) 2 1073741824) 3 after) 42 161
def timG (i:Nat):Int:=if i=1 then 161 else 0
structure TimSt (user on:Bool) (after:Int) (k:Nat) (s:CS):Prop where
 pc:s.f 32=4*(k:Int)
 u:s.u=user
 may:user=true∨s.f 34/8%2=1
 ie:s.f 35=if on then 128 else 0
 tv:s.f 36=128
 g:gw s.f=timG
 set:s.set=true
 cmp:s.cmp=2+after
 came:s.came=0
 stop:s.stop=false
def stOf (user:Bool):Int:=if user then 0 else 6272
def ieOf (on:Bool):Int:=if on then 128 else 0
theorem gw_tim (st ie after:Int):gw (timF st ie after)=timG:=by
 funext i
 unfold gw timF timG
 simp only[set1]
 by_cases h:i=1
 ·subst h;rfl
 ·rw[if_neg h,if_neg (by omega),if_neg (by omega),if_neg (by omega),if_neg (by omega),if_neg (by omega),if_neg (by omega),if_neg (by omega)]
theorem gw_set (f:Nat→Int) (i:Nat) (x:Int) (h:i<41):gw (set1 f i x)=gw f:=by
 funext j
 unfold gw
 exact set1_ne _ _ _ _ (by omega)
theorem lets_tim {s:CS} (hg:gw s.f=timG) {k:Nat} (hk:k≤8):z5m s (4*(k:Int)) 4 2=true:=by
 unfold z5m
 rw[hg]
 rcases (by omega:k=0∨k=1∨k=2∨k=3∨k=4∨k=5∨k=6∨k=7∨k=8) with rfl | rfl | rfl | rfl | rfl | rfl | rfl | rfl | rfl <;> (rw[Bool.or_eq_true];right;decide +kernel)
structure Tim1 (user on:Bool) (after:Int) (s:CS):Prop where
 pc:s.f 32=84
 st:s.f 34=stOf user
 ie:s.f 35=ieOf on
 tv:s.f 36=128
 epc:s.f 38=0
 g:gw s.f=timG
 u:s.u=false
 set:s.set=true
 cmp:s.cmp=2+after
 came:s.came=0
 stop:s.stop=false
 t:s.t=2
theorem tim_one (user on:Bool) (after:Int) (late:List Int):∃ s,z3i late (begC (timF (stOf user) (ieOf on) after) false) timW []=(s,timW,[])∧Tim1 user on after s:=by
 have e:=step_ins (late:=late) (s:=begC (timF (stOf user) (ieOf on) after) false) (l:=timW) (es:=[]) (k:=20) rfl (timer_off rfl) timW_u rfl (by rw[timW_len];decide) (lets_not rfl _ _ _) timW_sw rfl
 have e1:z4z (z2t (begC (timF (stOf user) (ieOf on) after) false)) timW [] (((1073741824:Int)+0%4294967296)%4294967296) 4 after=(onS { z2t (begC (timF (stOf user) (ieOf on) after) false) with lat:=1073741824,set:=true,cmp:=(z2t (begC (timF (stOf user) (ieOf on) after) false)).t+2+after },timW,[]):=by
  unfold z4z
  rw[if_neg (by decide),if_pos ⟨rfl,rfl,by decide⟩]
 rw[e,show (⟨[115,119],0,2,3,0⟩:MIns)=⟨[115,119],(0:Nat),(2:Nat),(3:Nat),0⟩ from rfl,insC_sw,show (z2t (begC (timF (stOf user) (ieOf on) after) false)).f 2=1073741824 from rfl,show (z2t (begC (timF (stOf user) (ieOf on) after) false)).f 3=after from rfl,e1]
 refine⟨_,rfl,rfl,rfl,rfl,rfl,rfl,?_,rfl,rfl,?_,rfl,rfl,rfl⟩
 ·show gw (set1 (set1 (set1 (timF (stOf user) (ieOf on) after) 0 0) 32 _) 0 0)=timG
  rw[gw_set _ _ _ (by decide),gw_set _ _ _ (by decide),gw_set _ _ _ (by decide),gw_tim]
 ·show (0:Int)+2+after=2+after
  omega
theorem tim_two {user on:Bool} {after:Int} {s:CS} (h:Tim1 user on after s) (late:List Int):∃ s',z3i late s timW []=(s',timW,[])∧TimSt user on after 0 s'∧s'.t=6:=by
 have ht:z5y s=false:=by
  unfold z5y
  rw[h.u,h.st]
  cases user
  ·rw[show (false||(stOf false/8%2==1))=false by decide,Bool.and_false]
  ·rw[show (false||(stOf true/8%2==1))=false by decide,Bool.and_false]
 have e:=step_ins (late:=late) (s:=s) (l:=timW) (es:=[]) (k:=21) h.stop ht timW_u h.pc (by rw[timW_len];decide) (lets_not h.u _ _ _) timW_mret (by rw[h.u];rfl)
 rw[e,show (⟨[109,114,101,116],0,0,0,0⟩:MIns)=⟨[109,114,101,116],(0:Nat),(0:Nat),(0:Nat),0⟩ from rfl,insC_mret]
 refine⟨_,rfl,⟨h.epc,?_,?_,?_,h.tv,?_,h.set,h.cmp,h.came,h.stop⟩,?_⟩
 ·show (z0j (s.f 34) 11 1==0)=user
  rw[h.st]
  cases user <;> decide +kernel
 ·show user=true∨retS (s.f 34)/8%2=1
  rw[h.st]
  cases user
  ·right;decide +kernel
  ·left;rfl
 ·show s.f 35=_
  rw[h.ie]
  rfl
 ·have e:gw (set1 (retF s.f) 0 0)=gw s.f:=by
   rw[gw_set _ _ _ (by decide)]
   funext i
   unfold gw retF
   rw[if_neg (by omega),if_neg (by omega)]
  exact e.trans h.g
 ·show s.t+4=6
  rw[h.t]
  rfl
theorem tim_comes {user:Bool} {after late:Int} {k:Nat} {s:CS} (h:TimSt user true after k s) (hl:0≤late) (hd:2+after≤s.t) :
  ∃ s',z3i [late,-5] s timW []=(s',timW,[])∧s'.f 32=128∧s'.f 39=2147483655∧s'.f 40=0∧s'.u=false∧s'.t=s.t+4+late:=by
 have ht:z5y s=true:=by
  unfold z5y dueV
  rw[h.set,h.cmp,h.u,h.ie,decide_eq_true hd]
  rcases h.may with q | q
  ·rw[q];rfl
  ·rw[q];cases user <;> rfl
 have hm:z4f s [late,-5]=late:=by
  unfold z4f
  rw[h.came]
  show (if (0:Int)<((2:Nat):Int) then max 0 late else 0)=late
  rw[if_pos (by decide)]
  omega
 refine⟨_,by unfold z3i;rw[if_neg (by rw[h.stop];decide),if_pos ht],h.tv,rfl,rfl,rfl,?_⟩
 show s.t+4+z4f s [late,-5]=_
 rw[hm]
theorem tim_goes {user on:Bool} {after:Int} {k:Nat} {s:CS} (h:TimSt user on after k s) (hk:k≤8) (hd:(decide (2+after≤s.t)&&on)=false) (late:List Int) :
  ∃ s' k',z3i late s timW []=(s',timW,[])∧TimSt user on after k' s'∧k'≤8∧s.t+1≤s'.t∧s'.t≤s.t+2:=by
 have ht:z5y s=false:=by
  unfold z5y dueV
  rw[h.set,h.cmp,h.ie]
  cases on
  ·simp
  ·rw[Bool.and_true] at hd
   rw[hd]
   rfl
 have hb:∀ i,z7b i=false→(s.u&&z7b i)=false:=fun i q=>by rw[q,Bool.and_false]
 by_cases h8:k=8
 ·subst h8
  have e:=step_ins (late:=late) (s:=s) (l:=timW) (es:=[]) (k:=8) h.stop ht timW_u h.pc (by rw[timW_len];decide) (by rw[h.pc];exact lets_tim h.g (Nat.le_refl 8)) timW_jal (hb _ (by decide +kernel))
  rw[e,show (⟨[106,97,108],0,0,0,-32⟩:MIns)=⟨[106,97,108],(0:Nat),(0:Nat),(0:Nat),-32⟩ from rfl,insC_jal]
  refine⟨_,0,rfl,⟨?_,h.u,h.may,h.ie,h.tv,?_,h.set,h.cmp,h.came,h.stop⟩,Nat.zero_le _,?_,?_⟩
  ·show (s.f 32+(-32)%4294967296)%4294967296=_
   rw[h.pc]
   rfl
  ·show gw (set1 (set1 (set1 s.f 0 _) 32 _) 0 0)=timG
   rw[gw_set _ _ _ (by decide),gw_set _ _ _ (by decide),gw_set _ _ _ (by decide),h.g]
  ·show s.t+1≤s.t+2
   omega
  ·show s.t+2≤s.t+2
   omega
 ·have e:=step_ins (late:=late) (s:=s) (l:=timW) (es:=[]) (k:=k) h.stop ht timW_u h.pc (by rw[timW_len];omega) (by rw[h.pc];exact lets_tim h.g hk) (timW_addi k (by omega)) (hb _ (by decide +kernel))
  rw[e,show (⟨[97,100,100,105],1,1,0,1⟩:MIns)=⟨[97,100,100,105],(1:Nat),(1:Nat),(0:Nat),1⟩ from rfl,insC_addi]
  refine⟨_,k+1,rfl,⟨?_,h.u,h.may,h.ie,h.tv,?_,h.set,h.cmp,h.came,h.stop⟩,by omega,?_,?_⟩
  ·show (s.f 32+4)%4294967296=_
   rw[h.pc]
   push_cast
   omega
  ·show gw (set1 (set1 (set1 s.f 1 _) 32 _) 0 0)=timG
   rw[gw_set _ _ _ (by decide),gw_set _ _ _ (by decide),gw_set _ _ _ (by decide),h.g]
  ·show s.t+1≤s.t+1
   omega
  ·show s.t+1≤s.t+2
   omega
theorem TimSt.away {user on:Bool} {after:Int} {k:Nat} {s:CS} (h:TimSt user on after k s) (hk:k≤8):s.f 32≠128:=by rw[h.pc];omega
end Go.Proofs.YtilcoimelnpkeaaGreatDoor
