/-
  Contracts of functions that the statement reaches, and what they are made of, callees first.
-/
import Derived.Test.YtilcoimelnpkeaaGreatDoorPzInsq
import Derived.Test.YtilcoimelnpkeaaGreatDoorPza
import Derived.Test.YtilcoimelnpkeaaGreatDoorPzb
import Derived.Test.YtilcoimelnpkeaaGreatDoorPzc
import Derived.Test.YtilcoimelnpkeaaGreatDoorPzq
set_option maxRecDepth 100000
set_option maxHeartbeats 8000000
namespace Go.Proofs.YtilcoimelnpkeaaGreatDoor
open Go.RowKit
theorem word_u {zs:List Int} (h:∀ z∈zs,U32 z) (i:Nat):U32 (z0p zs i):=by
 unfold z0p
 rw[List.getD_eq_getElem?_getD]
 cases hq:zs[i]? with
 | none=>exact⟨by decide,by decide⟩
 | some z=>exact h z (List.mem_of_getElem? hq)
theorem no_late (w:World):z9l w (.slice none 0 0) []:=⟨none,0,0,0,rfl,fun h=>absurd h (by decide)⟩
theorem x0C_fst (s:CS) (l:List Int) (es:List Ev):x0C (s,l,es)=({ s with f:=set1 s.f 0 0 },l,es):=rfl
structure FaultRes (f:Nat→Int) (pc0 tv t cause val:Int) (s:CS):Prop where
 pc:s.f 32=tv
 epc:s.f 38=pc0
 cause:s.f 39=cause
 val:s.f 40=val
 x:∀ i,i<32→s.f i=f i
 u:s.u=false
 t:s.t=t+4
theorem fault_res {s:CS} {f:Nat→Int} {pc tv t:Int} (hf:∀ i,i<32→s.f i=f i) (h0:f 0=0) (hp:s.f 32=pc) (hv:s.f 36=tv) (ht:s.t=t) (c v:Int):FaultRes f pc tv t c v { z1j s c v with f:=set1 (z1j s c v).f 0 0 }:=by
 refine⟨hv,hp,rfl,rfl,fun i hi=>?_,rfl,?_⟩
 ·show set1 (z5i s.f s.u c v) 0 0 i=f i
  unfold set1 z5i
  by_cases h:i=0
  ·rw[if_pos h,h,h0]
  ·rw[if_neg h,if_neg (by omega),if_neg (by omega),if_neg (by omega),if_neg (by omega),if_neg (by omega)]
   exact hf i hi
 ·show s.t+4=t+4
  rw[ht]
def insF:List MIns:=[⟨[108,119],1,2,0,0⟩,⟨[108,104],1,2,0,0⟩,⟨[115,119],0,2,3,0⟩,⟨[115,104],0,2,3,0⟩,⟨[101,99,97,108,108],0,0,0,0⟩,⟨[101,98,114,101,97,107],0,0,0,0⟩,⟨[108,119],1,4,0,0⟩,⟨[115,119],0,4,3,0⟩,⟨[99,115,114,114,119],1,2,0,5⟩,⟨[99,115,114,114,119],1,2,0,3072⟩]
def faultF (x odd far:Int):Nat→Int:=set1 (set1 (set1 (set1 (set1 (set1 (set1 (fun _=>0) 32 8) 36 16) 42 27) 1 77) 2 odd) 3 x) 4 far
def faultG (i:Nat):Int:=if i=1 then 27 else 0
theorem gw_fault (x odd far:Int):gw (set1 (faultF x odd far) 0 0)=faultG:=by
 funext i
 unfold gw faultF faultG
 simp only[set1]
 by_cases h:i=1
 ·subst h;rfl
 ·rw[if_neg h,if_neg (by omega),if_neg (by omega),if_neg (by omega),if_neg (by omega),if_neg (by omega),if_neg (by omega),if_neg (by omega),if_neg (by omega)]
theorem lets_fault (x odd far:Int) (u:Bool):z5m (begC (faultF x odd far) u) 8 4 2=true:=by
 unfold z5m
 rw[show (begC (faultF x odd far) u).f=set1 (faultF x odd far) 0 0 from rfl,gw_fault]
 cases u
 ·rfl
 ·show (!true||z2m (ofV faultG) 8 4 2)=true
  decide +kernel
def causeF (k:Nat) (u:Bool):Int:=if k=4 then (if u then 8 else 11) else [4,4,6,6,11,3,5,7,2,2].getD k 0
def valF (k:Nat) (odd far:Int):Int:=[odd,odd,odd,odd,0,8,far,far,putN (insF.getD 8 ⟨[],0,0,0,0⟩),putN (insF.getD 9 ⟨[],0,0,0,0⟩)].getD k 0
theorem fault_plain {x odd far : Int} {u : Bool} (ho : odd % 2 = 1) (hou : U32 odd) (hf : 1048576 ≤ far ∧ far < 1048592 ∧ far % 4 = 0) (k : Nat) (hk : k < 10) {W : Int} (hW : W = putN (insF.getD k ⟨[], 0, 0, 0, 0⟩)) :
    ∃ s,z3i [] (begC (faultF x odd far) u) [1,2,W,4,5,6] []=(s,[1,2,W,4,5,6],[])∧FaultRes (faultF x odd far) 8 16 0 (causeF k u) (valF k odd far) s:=by
  have hWu : U32 W := by rw [hW]; unfold putN; split; · rename_i h; exact put_u32 h
                         · exact⟨by decide,by decide⟩
  have hu:∀ j,U32 (z0p [1,2,W,4,5,6] j):=word_u fun z hz=>by
    simp only[List.mem_cons,List.not_mem_nil,or_false] at hz
    rcases hz with rfl | rfl | rfl | rfl | rfl | rfl
    all_goals first | exact hWu | exact⟨by decide,by decide⟩
  have hR:∀ (s:CS),s.f=(begC (faultF x odd far) u).f→s.t=0→∀ c v,FaultRes (faultF x odd far) 8 16 0 c v { z1j s c v with f:=set1 (z1j s c v).f 0 0 }:=fun s e et c v=>by
    refine fault_res (f:=faultF x odd far) (pc:=8) (tv:=16) (fun i hi=>?_) rfl (by rw[e];rfl) (by rw[e];rfl) et c v
    rw[e]
    show set1 (faultF x odd far) 0 0 i=_
    unfold set1
    split
    · rename_i h;rw[h];rfl
    · rfl
  have f2:(z2t (begC (faultF x odd far) u)).f 2=odd:=rfl
  have f4:(z2t (begC (faultF x odd far) u)).f 4=far:=rfl
  have hget:∀ i,putN i=W→mayV i=true→getV (z0p [1,2,W,4,5,6] 2)=some i:=fun i e h=>by
    show getV W=some i
    rw[← e];exact get_putN h
  have hins:∀ i,putN i=W→mayV i=true→((begC (faultF x odd far) u).u&&z7b i)=false→z3i [] (begC (faultF x odd far) u) [1,2,W,4,5,6] []=x0C (insC (z2t (begC (faultF x odd far) u)) [1,2,W,4,5,6] [] i W):=fun i e h hb=>
    step_ins (k:=2) rfl (timer_off rfl) hu rfl (show 2<6 by decide) (lets_fault x odd far u) (hget i e h) hb
  have e2:(odd+0%4294967296)%4294967296=odd:=by obtain⟨h0,h1⟩:=hou;omega
  have e4:(far+0%4294967296)%4294967296=far:=by omega
  have hub:∀ i,z7b i=false→((begC (faultF x odd far) u).u&&z7b i)=false:=fun i h=>by rw[h,Bool.and_false]
  rcases (by omega:k=0∨k=1∨k=2∨k=3∨k=4∨k=5∨k=6∨k=7∨k=8∨k=9) with rfl | rfl | rfl | rfl | rfl | rfl | rfl | rfl | rfl | rfl
  · refine⟨_,?_,hR { z2t (begC (faultF x odd far) u) with lat:=odd } rfl rfl _ _⟩
    rw[hins ⟨[108,119],1,2,0,0⟩ hW.symm (by decide +kernel) (hub _ (by decide +kernel)),show (⟨[108,119],1,2,0,0⟩:MIns)=⟨[108,119],(1:Nat),(2:Nat),(0:Nat),0⟩ from rfl,insC_lw,f2,e2]
    unfold z3m
    rw[if_pos (by unfold askV;rw[if_neg (by decide),if_pos (by omega)])]
    rfl
  · refine⟨_,?_,hR { z2t (begC (faultF x odd far) u) with lat:=odd } rfl rfl _ _⟩
    rw[hins ⟨[108,104],1,2,0,0⟩ hW.symm (by decide +kernel) (hub _ (by decide +kernel)),show (⟨[108,104],1,2,0,0⟩:MIns)=⟨[108,104],(1:Nat),(2:Nat),(0:Nat),0⟩ from rfl,insC_lh,f2,e2]
    unfold z3m
    rw[if_pos (by unfold askV;rw[if_neg (by decide),if_pos (by omega)])]
    rfl
  · refine⟨_,?_,hR { z2t (begC (faultF x odd far) u) with lat:=odd } rfl rfl _ _⟩
    rw[hins ⟨[115,119],0,2,3,0⟩ hW.symm (by decide +kernel) (hub _ (by decide +kernel)),show (⟨[115,119],0,2,3,0⟩:MIns)=⟨[115,119],(0:Nat),(2:Nat),(3:Nat),0⟩ from rfl,insC_sw,f2,e2]
    unfold z4z
    rw[if_pos (by omega)]
    rfl
  · refine⟨_,?_,hR { z2t (begC (faultF x odd far) u) with lat:=odd } rfl rfl _ _⟩
    rw[hins ⟨[115,104],0,2,3,0⟩ hW.symm (by decide +kernel) (hub _ (by decide +kernel)),show (⟨[115,104],0,2,3,0⟩:MIns)=⟨[115,104],(0:Nat),(2:Nat),(3:Nat),0⟩ from rfl,insC_sh,f2,e2]
    unfold z4z
    rw[if_pos (by omega)]
    rfl
  · refine⟨_,?_,hR (z2t (begC (faultF x odd far) u)) rfl rfl _ _⟩
    rw[hins ⟨[101,99,97,108,108],0,0,0,0⟩ hW.symm (by decide +kernel) (hub _ (by decide +kernel)),show (⟨[101,99,97,108,108],0,0,0,0⟩:MIns)=⟨[101,99,97,108,108],(0:Nat),(0:Nat),(0:Nat),0⟩ from rfl,insC_ecall]
    rfl
  · refine⟨_,?_,hR (z2t (begC (faultF x odd far) u)) rfl rfl _ _⟩
    rw[hins ⟨[101,98,114,101,97,107],0,0,0,0⟩ hW.symm (by decide +kernel) (hub _ (by decide +kernel)),show (⟨[101,98,114,101,97,107],0,0,0,0⟩:MIns)=⟨[101,98,114,101,97,107],(0:Nat),(0:Nat),(0:Nat),0⟩ from rfl,insC_ebreak]
    rfl
  · refine⟨_,?_,hR { z2t (begC (faultF x odd far) u) with lat:=far } rfl rfl _ _⟩
    rw[hins ⟨[108,119],1,4,0,0⟩ hW.symm (by decide +kernel) (hub _ (by decide +kernel)),show (⟨[108,119],1,4,0,0⟩:MIns)=⟨[108,119],(1:Nat),(4:Nat),(0:Nat),0⟩ from rfl,insC_lw,f4,e4]
    have ha:askV [1,2,W,4,5,6].length far 4=2:=by
      unfold askV
      rw[if_neg (by decide),if_neg (by omega),if_pos (by show 4*((6:Nat):Int)≤far;omega)]
    unfold z3m
    rw[ha,if_neg (by decide),if_pos (Or.inl (by decide))]
    rfl
  · refine⟨_,?_,hR { z2t (begC (faultF x odd far) u) with lat:=far } rfl rfl _ _⟩
    rw[hins ⟨[115,119],0,4,3,0⟩ hW.symm (by decide +kernel) (hub _ (by decide +kernel)),show (⟨[115,119],0,4,3,0⟩:MIns)=⟨[115,119],(0:Nat),(4:Nat),(3:Nat),0⟩ from rfl,insC_sw,f4,e4]
    have ha:askV [1,2,W,4,5,6].length far 4=2:=by
      unfold askV
      rw[if_neg (by decide),if_neg (by omega),if_pos (by show 4*((6:Nat):Int)≤far;omega)]
    have hd:∀ (s:CS) (q:Int),1073741824≤q→¬(s.u=false∧(4:Int)=4∧far=q):=fun s q hq e=>by
      have:=e.2.2
      omega
    unfold z4z
    rw[if_neg (by omega),if_neg (hd _ _ (by decide)),if_neg (hd _ _ (by decide)),if_neg (hd _ _ (by decide)),if_neg (hd _ _ (by decide)),if_neg (hd _ _ (by decide)),ha]
    cases z5m (z2t (begC (faultF x odd far) u)) far 4 1
    · rw[if_pos rfl];rfl
    · rw[if_neg (by decide),if_pos (by decide)];rfl
  all_goals
    refine⟨_,?_,hR (z2t (begC (faultF x odd far) u)) rfl rfl _ _⟩
  · cases u
    · rw[hins ⟨[99,115,114,114,119],1,2,0,5⟩ hW.symm (by decide +kernel) rfl,show (⟨[99,115,114,114,119],1,2,0,5⟩:MIns)=⟨[99,115,114,114,119],(1:Nat),(2:Nat),(0:Nat),5⟩ from rfl,insC_csrrw]
      unfold csrS
      rw[if_pos (by decide +kernel),hW]
      rfl
    · rw[step_do rfl (timer_off rfl)]
      have hl:=lets_fault x odd far true
      unfold doC
      rw[show (z2t (begC (faultF x odd far) true)).f 32=4*((2:Nat):Int) from rfl,if_neg (by decide),if_neg (by rw[show z5m (z2t (begC (faultF x odd far) true)) (4*((2:Nat):Int)) 4 2=true from hl];decide),if_neg (show ¬askV [1,2,W,4,5,6].length (4*((2:Nat):Int)) 4≠0 from (by decide:¬askV 6 (4*((2:Nat):Int)) 4≠0)),load_word hu 2,hget ⟨[99,115,114,114,119],1,2,0,5⟩ hW.symm (by decide +kernel)]
      show x0C (if (true&&z7b ⟨[99,115,114,114,119],1,2,0,5⟩)=true then _ else _)=_
      rw[if_pos (by decide +kernel),show z0p [1,2,W,4,5,6] 2=W from rfl,hW]
      rfl
  · cases u
    · rw[hins ⟨[99,115,114,114,119],1,2,0,3072⟩ hW.symm (by decide +kernel) rfl,show (⟨[99,115,114,114,119],1,2,0,3072⟩:MIns)=⟨[99,115,114,114,119],(1:Nat),(2:Nat),(0:Nat),3072⟩ from rfl,insC_csrrw]
      unfold csrS
      rw[if_neg (by decide +kernel),if_pos (Or.inl rfl),if_pos (by decide +kernel),hW]
      rfl
    · rw[step_do rfl (timer_off rfl)]
      have hl:=lets_fault x odd far true
      unfold doC
      rw[show (z2t (begC (faultF x odd far) true)).f 32=4*((2:Nat):Int) from rfl,if_neg (by decide),if_neg (by rw[show z5m (z2t (begC (faultF x odd far) true)) (4*((2:Nat):Int)) 4 2=true from hl];decide),if_neg (show ¬askV [1,2,W,4,5,6].length (4*((2:Nat):Int)) 4≠0 from (by decide:¬askV 6 (4*((2:Nat):Int)) 4≠0)),load_word hu 2,hget ⟨[99,115,114,114,119],1,2,0,3072⟩ hW.symm (by decide +kernel)]
      show x0C (if (true&&z7b ⟨[99,115,114,114,119],1,2,0,3072⟩)=true then _ else _)=_
      rw[if_pos (by decide +kernel),show z0p [1,2,W,4,5,6] 2=W from rfl,hW]
      rfl
def lone (k:Nat) (W:Int):List Int:=(List.replicate 64 (0:Int)).set k W
theorem lone_len (k:Nat) (W:Int):(lone k W).length=64:=by unfold lone;rw[List.length_set,List.length_replicate]
theorem lone_at (k:Nat) (W:Int) (hk:k<64):z0p (lone k W) k=W:=by
 unfold z0p lone
 rw[List.getD_eq_getElem?_getD,List.getElem?_set_self (by rw[List.length_replicate];exact hk)]
 rfl
theorem lone_ne (k j:Nat) (W:Int) (h:j≠k):z0p (lone k W) j=0:=by
 unfold z0p lone
 rw[List.getD_eq_getElem?_getD,List.getElem?_set_ne (Ne.symm h),List.getElem?_replicate]
 split <;> rfl
theorem lone_u (k:Nat) {W:Int} (hW:U32 W) (j:Nat):U32 (z0p (lone k W) j):=by
 by_cases h:j=k
 ·subst h
  by_cases h64:j<64
  ·rw[lone_at j W h64];exact hW
  ·unfold z0p
   rw[List.getD_eq_getElem?_getD,List.getElem?_eq_none (by rw[lone_len];omega)]
   exact⟨by decide,by decide⟩
 ·rw[lone_ne k j W h];exact⟨by decide,by decide⟩
def jumpF:Nat→Int:=set1 (set1 (fun _=>0) 32 128) 36 252
def jumpI (h rd:Nat) (t:Int):MIns:=if h=0 then ⟨[106,97,108],rd,0,0,t-128⟩ else if h=1 then ⟨[106,97,108,114],rd,0,0,t+1⟩ else ⟨[98,101,113],0,0,0,t-128⟩
theorem jump_may (h rd:Nat) {t:Int} (hr:rd<32) (ht:0≤t∧t<240) (h2:t%2=0):mayV (jumpI h rd t)=true:=by
 unfold jumpI
 split
 ·show mayF 74 (rd:Int) 0 0 (t-128)=true
  unfold mayF regV inV
  simp only[Bool.and_eq_true,decide_eq_true_eq]
  simp
  omega
 split
 ·show mayF 73 (rd:Int) 0 0 (t+1)=true
  unfold mayF regV inV
  simp
  omega
 ·show mayF 66 0 0 0 (t-128)=true
  unfold mayF regV inV
  simp
  omega
structure JumpRes (h rd:Nat) (t:Int) (s:CS):Prop where
 pc:s.f 32=t
 link:0<rd→rd<32→s.f rd=if h=2 then 0 else 132
 tv:s.f 36=252
 z:s.f 0=0
 u:s.u=false
 set:s.set=false
 stop:s.stop=false
 t:s.t=2
theorem jump_plain {h rd:Nat} (hh:h<3) (hr0:0<rd) (hr:rd<32) {t:Int} (ht:0≤t∧t<240) (h2:t%2=0) {W:Int} (hW:W=putN (jumpI h rd t)) :
  ∃ s,z3i [] (begC jumpF false) (lone 32 W) []=(s,lone 32 W,[])∧JumpRes h rd t s:=by
 have hWu:U32 W:=by rw[hW];unfold putN;rw[if_pos (jump_may h rd hr ht h2)];exact put_u32 (jump_may h rd hr ht h2)
 have e:=step_ins (late:=[]) (s:=begC jumpF false) (l:=lone 32 W) (es:=[]) (k:=32) (i:=jumpI h rd t) rfl (timer_off rfl) (lone_u 32 hWu) rfl (by rw[lone_len];decide) (lets_not rfl _ _ _) (by rw[lone_at 32 W (by decide),hW];exact get_putN (jump_may h rd hr ht h2)) rfl
 rw[e]
 have h0:∀ j,j≠32→j≠36→(begC jumpF false).f j=0:=fun j a b=>by
  show set1 jumpF 0 0 j=0
  unfold jumpF set1
  split
  ·rfl
  ·first | rfl | rw[if_neg b,if_neg a]
 have hv:∀ y z:Int,rd≠36→set1 (set1 (set1 (begC jumpF false).f rd y) 32 z) 0 0 36=252:=fun y z hne=>by
  rw[set1_ne _ _ _ _ (by omega),set1_ne _ _ _ _ (by omega),set1_ne _ _ _ _ (by omega)]
  rfl
 rcases (by omega:h=0∨h=1∨h=2) with rfl | rfl | rfl
 ·refine⟨_,by rw[show jumpI 0 rd t=⟨[106,97,108],rd,(0:Nat),(0:Nat),t-128⟩ from rfl,insC_jal];rfl,?_⟩
  refine⟨?_,fun _ _=>?_,?_,rfl,rfl,rfl,rfl,rfl⟩
  ·show ((128:Int)+(t-128)%4294967296)%4294967296=t
   omega
  ·show set1 (set1 (set1 (begC jumpF false).f rd (((begC jumpF false).f 32+4)%4294967296)) 32 _) 0 0 rd=132
   rw[set1_ne _ _ _ _ (by omega),set1_ne _ _ _ _ (by omega),set1_at]
   rfl
  ·exact hv _ 0 (by omega)
 ·refine⟨_,by rw[show jumpI 1 rd t=⟨[106,97,108,114],rd,(0:Nat),(0:Nat),t+1⟩ from rfl,insC_jalr];rfl,?_⟩
  refine⟨?_,fun _ _=>?_,?_,rfl,rfl,rfl,rfl,rfl⟩
  ·show ((0:Int)+(t+1)%4294967296)%4294967296/2*2=t
   omega
  ·show set1 (set1 (set1 (begC jumpF false).f rd (((begC jumpF false).f 32+4)%4294967296)) 32 _) 0 0 rd=132
   rw[set1_ne _ _ _ _ (by omega),set1_ne _ _ _ _ (by omega),set1_at]
   rfl
  ·exact hv _ 0 (by omega)
 ·refine⟨_,by rw[show jumpI 2 rd t=⟨[98,101,113],(0:Nat),(0:Nat),(0:Nat),t-128⟩ from rfl,insC_beq];rfl,?_⟩
  refine⟨?_,fun _ _=>?_,rfl,rfl,rfl,rfl,rfl,rfl⟩
  ·show ((128:Int)+(if ((0:Int)==0)=true then (t-128)%4294967296 else 4))%4294967296=t
   rw[show ((0:Int)==0)=true from rfl,if_pos rfl]
   omega
  ·show set1 (set1 (begC jumpF false).f 32 _) 0 0 rd=0
   rw[set1_ne _ _ _ _ (by omega),set1_ne _ _ _ _ (by omega)]
   exact h0 rd (by omega) (by omega)
theorem jump_odd {h rd:Nat} {t:Int} {s:CS} (hs:JumpRes h rd t s) (h4:¬t%4=0) (l:List Int) :
  ∃ s',z3i [] s l []=(s',l,[])∧s'.f 39=0∧s'.f 40=t∧s'.f 38=t∧s'.f 32=252:=by
 refine⟨_,step_odd hs.stop (timer_off hs.set) (by rw[hs.pc];exact h4),rfl,hs.pc,hs.pc,hs.tv⟩
theorem jump_none {h rd:Nat} {t:Int} {s:CS} (hs:JumpRes h rd t s) (ht:0≤t∧t<240) (h4:t%4=0) (hn:t≠128) {W:Int} (hW:U32 W) :
  ∃ s',z3i [] s (lone 32 W) []=(s',lone 32 W,[])∧s'.f 39=2∧s'.f 40=0∧s'.f 38=t∧s'.f 32=252:=by
 obtain⟨k,hk⟩:=Int.eq_ofNat_of_zero_le (show 0≤t/4 by omega)
 have hw:z0p (lone 32 W) k=0:=lone_ne 32 k W (by omega)
 have e:=step_none (late:=[]) (s:=s) (l:=lone 32 W) (es:=[]) (k:=k) hs.stop (timer_off hs.set) (lone_u 32 hW) (by rw[hs.pc];omega) (by rw[lone_len];omega) (lets_not hs.u _ _ _) (by rw[hw];exact get_zero)
 rw[hw] at e
 exact⟨_,e,rfl,rfl,hs.pc,hs.tv⟩
theorem jump_same {h rd:Nat} (hh:h<3) (hr:rd<32) {s:CS} (hs:JumpRes h rd 128 s) {W:Int} (hW:W=putN (jumpI h rd 128)) :
  ∃ s',z3i [] s (lone 32 W) []=(s',lone 32 W,[])∧s'.f 32=128:=by
 have hm:=jump_may h rd (t:=128) hr ⟨by decide,by decide⟩ (by decide)
 have hWu:U32 W:=by rw[hW];unfold putN;rw[if_pos hm];exact put_u32 hm
 have e:=step_ins (late:=[]) (s:=s) (l:=lone 32 W) (es:=[]) (k:=32) (i:=jumpI h rd 128) hs.stop (timer_off hs.set) (lone_u 32 hWu) hs.pc (by rw[lone_len];decide) (lets_not hs.u _ _ _) (by rw[lone_at 32 W (by decide),hW];exact get_putN hm) (by rw[hs.u];rfl)
 rw[e]
 have hp:(z2t s).f 32=128:=hs.pc
 have hz:(z2t s).f 0=0:=hs.z
 rcases (by omega:h=0∨h=1∨h=2) with rfl | rfl | rfl
 ·rw[show jumpI 0 rd 128=⟨[106,97,108],rd,(0:Nat),(0:Nat),128-128⟩ from rfl,insC_jal,hp]
  exact⟨_,rfl,rfl⟩
 ·rw[show jumpI 1 rd 128=⟨[106,97,108,114],rd,(0:Nat),(0:Nat),128+1⟩ from rfl,insC_jalr,hp,hz]
  exact⟨_,rfl,rfl⟩
 ·rw[show jumpI 2 rd 128=⟨[98,101,113],(0:Nat),(0:Nat),(0:Nat),128-128⟩ from rfl,insC_beq]
  refine⟨_,rfl,?_⟩
  show ((z2t s).f 32+(if ((z2t s).f 0==(z2t s).f 0)=true then ((128:Int)-128)%4294967296 else 4))%4294967296=128
  rw[hp,hz]
  rfl
def guardF (p x a bf:Int):Nat→Int:=set1 (set1 (set1 (set1 (set1 (set1 (set1 (fun _=>0) 36 252) 1 p) 2 x) 41 0) 42 5) 43 a) 44 bf
def guardG (a bf:Int) (i:Nat):Int:=if i=1 then 5 else if i=2 then a else if i=3 then bf else 0
theorem gw_guard (f:Nat→Int) (p x a bf:Int) (h:∀ i,41≤i→f i=guardF p x a bf i):gw f=guardG a bf:=by
  funext i
  unfold gw
  rw[h _ (by omega)]
  unfold guardF guardG
  simp only[set1]
  by_cases h1:i=1
  · subst h1;rfl
  by_cases h2:i=2
  · subst h2;rfl
  by_cases h3:i=3
  · subst h3;rfl
  rw[if_neg h1,if_neg h2,if_neg h3,if_neg (by omega),if_neg (by omega),if_neg (by omega)]
  split; · rfl
  rw[if_neg (by omega),if_neg (by omega),if_neg (by omega)]
def okG (a b fl p:Int) (k:Nat):Bool:=(decide (a≤p)&&decide (p+4≤b))&&(k==0||(k==1&&(fl/2==1))||(k==2&&(fl%2==1)))
theorem lets_guard {s:CS} {p x a b fl:Int} (hu:s.u=true) (hf:∀ i,41≤i→s.f i=guardF p x a (b+fl) i) (ha:a%4=0) (hb:b%4=0) (h0:0≤fl∧fl<4) (hp:4≤p) (k:Nat) (hk:k<3):z5m s p 4 (k:Int)=okG a b fl p k:=by
 unfold z5m
 rw[hu,gw_guard s.f p x a (b+fl) hf]
 unfold z2m
 rw[if_neg (by omega)]
 have e:ofV (guardG a (b+fl))=[z7c 0 5,z7c a (b+fl),z7c 0 0,z7c 0 0,z7c 0 0,z7c 0 0,z7c 0 0,z7c 0 0]:=rfl
 rw[e]
 have z:∀ n,0≤n→n<8→z8f (z7c 0 n) p 4 (k:Int)=false:=fun n hn hn'=>by
  unfold z8f z7c
  rw[decide_eq_false (show ¬p+4≤n/4*4 by omega),Bool.and_false]
  rfl
 simp only[List.any_cons,List.any_nil,z 5 (by decide) (by decide),z 0 (by decide) (by decide),Bool.false_or,Bool.or_false,Bool.not_true]
 unfold z8f z7c okG
 simp only
 have ea:a/4*4=a:=by omega
 have eb:(b+fl)/4*4=b:=by omega
 have e1:(b+fl)%2=fl%2:=by omega
 have e2:(b+fl)/2%2=fl/2:=by omega
 rw[ea,eb,e1,e2]
 rcases (by omega:k=0∨k=1∨k=2) with rfl | rfl | rfl <;> simp
theorem lets_first {s:CS} {p x a bf:Int} (hf:∀ i,41≤i→s.f i=guardF p x a bf i):z5m s 0 4 2=true:=by
 unfold z5m
 rw[gw_guard s.f p x a bf hf]
 have e:ofV (guardG a bf)=[z7c 0 5,z7c a bf,z7c 0 0,z7c 0 0,z7c 0 0,z7c 0 0,z7c 0 0,z7c 0 0]:=rfl
 unfold z2m
 rw[if_neg (by decide),e,List.any_cons,show z8f (z7c 0 5) 0 4 2=true by decide,Bool.true_or,Bool.or_true]
def guardI (k:Nat):MIns:=if k=0 then ⟨[108,119],3,1,0,0⟩ else if k=1 then ⟨[115,119],0,1,2,0⟩ else ⟨[106,97,108,114],4,1,0,0⟩
theorem guard_may (k:Nat):mayV (guardI k)=true∧z7b (guardI k)=false:=by
  unfold guardI
  split; · decide +kernel
  split <;> decide +kernel
structure GuardRes (k:Nat) (ok:Bool) (p x:Int) (s:CS) (wd:Int):Prop where
 no:ok=false→s.f 32=252∧s.u=false∧s.f 39=[5,7,1].getD k 0∧s.f 40=p∧wd=0∧s.f 3=0
 lw:ok=true→k=0→s.f 32=4∧s.u=true∧wd=0
 sw:ok=true→k=1→s.f 32=4∧s.u=true∧wd=x
 go:ok=true→k=2→s.f 39=2∧s.f 38=p∧s.f 4=4
theorem store_word6 {o y:Int} (ho:U32 o) (hy:U32 y) {p:Int} (hp:p%4=0):z3h o p 4 y=y:=by
 rw[storeV_mod,hp]
 obtain⟨Y,rfl⟩:=Int.eq_ofNat_of_zero_le hy.1
 obtain⟨X,rfl⟩:=Int.eq_ofNat_of_zero_le ho.1
 have h1:X<4294967296:=by have:=ho.2;omega
 have h2:Y<4294967296:=by have:=hy.2;omega
 unfold z3h
 rw[show maskV 0 4=((4294967295:Nat):Int) by decide +kernel,show (2:Int) ^ ((0:Int)%4*8).toNat=1 by decide,Int.mul_one]
 rw[show (Y:Int)%4294967296=(Y:Int) by omega]
 rw[u32_andNot_nat X _ h1 (by decide),u32_and_nat Y _ h2 (by decide)]
 have e1:X &&& (4294967295-4294967295)=0:=by simp
 have e2:Y &&& 4294967295=Y:=by
  have:=Nat.and_two_pow_sub_one_eq_mod Y 32
  rw[show (2:Nat) ^ 32-1=4294967295 by decide,Nat.mod_eq_of_lt (by omega)] at this
  exact this
 rw[e1,e2,u32_or_nat 0 Y (by decide) h2]
 simp
theorem guard_first {p x a b fl:Int} {k:Nat} (_:k<3) {W:Int} (hW:W=putN (guardI k)) :
  z3i [] (begC (guardF p x a (b+fl)) true) (lone 0 W) []=x0C (insC (z2t (begC (guardF p x a (b+fl)) true)) (lone 0 W) [] (guardI k) W):=by
 have hm:=(guard_may k).1
 have hWu:U32 W:=by rw[hW];unfold putN;rw[if_pos hm];exact put_u32 hm
 have e:=step_ins (late:=[]) (s:=begC (guardF p x a (b+fl)) true) (l:=lone 0 W) (es:=[]) (k:=0) (i:=guardI k) rfl (timer_off rfl) (lone_u 0 hWu) rfl (by rw[lone_len];decide)
  (lets_first (p:=p) (x:=x) (a:=a) (bf:=b+fl) (fun i hi=>set1_ne _ _ _ _ (by omega))) (by rw[lone_at 0 W (by decide),hW];exact get_putN hm) (by rw[(guard_may k).2,Bool.and_false])
 rw[lone_at 0 W (by decide)] at e
 exact e
theorem guard_lets {p x a b fl:Int} (ha:a%4=0) (hb:b%4=0) (h0:0≤fl∧fl<4) (hp:4≤p∧p<256) {k:Nat} (hk:k<3) {s:CS} (hu:s.u=true) (hf:∀ i,41≤i→s.f i=guardF p x a (b+fl) i):z5m s p 4 (k:Int)=okG a b fl p k:=
 lets_guard hu hf ha hb h0 hp.1 k hk
theorem guard_lw {p x a b fl:Int} (ha:a%4=0) (hb:b%4=0) (h0:0≤fl∧fl<4) (hp:4≤p∧p<256) (h4:p%4=0) {W:Int} (hW:W=putN (guardI 0)) :
  ∃ s,z3i [] (begC (guardF p x a (b+fl)) true) (lone 0 W) []=(s,lone 0 W,[])∧GuardRes 0 (okG a b fl p 0) p x s (z0p (lone 0 W) (p/4).toNat):=by
 have hz:z0p (lone 0 W) (p/4).toNat=0:=lone_ne 0 _ W (by omega)
 rw[guard_first (by decide) hW,show guardI 0=⟨[108,119],(3:Nat),(1:Nat),(0:Nat),0⟩ from rfl,insC_lw,hz]
 have e1:((z2t (begC (guardF p x a (b+fl)) true)).f 1+0%4294967296)%4294967296=p:=by
  show (p+0%4294967296)%4294967296=p
  omega
 rw[e1]
 have hl:=guard_lets ha hb h0 hp (k:=0) (by decide) (s:=z2t (begC (guardF p x a (b+fl)) true)) rfl (fun i hi=>set1_ne _ _ _ _ (by omega))
 have hk:askV (lone 0 W).length p 4=0:=by
  rw[lone_len]
  unfold askV
  rw[if_neg (by decide),if_neg (by omega),if_neg (by omega)]
 unfold z3m
 rw[hk,if_neg (by decide),show ((0:Nat):Int)=0 from rfl] at *
 rw[hl]
 cases okG a b fl p 0
 ·rw[if_pos (Or.inr rfl)]
  exact⟨_,rfl,fun _=>⟨rfl,rfl,rfl,rfl,rfl,rfl⟩,fun e=>(by cases e),fun e=>(by cases e),fun e=>(by cases e)⟩
 ·rw[if_neg (by decide)]
  exact⟨_,rfl,fun e=>(by cases e),fun _ _=>⟨rfl,rfl,rfl⟩,fun _ e=>(by cases e),fun _ e=>(by cases e)⟩
theorem guard_sw {p x a b fl:Int} (ha:a%4=0) (hb:b%4=0) (h0:0≤fl∧fl<4) (hp:4≤p∧p<256) (h4:p%4=0) (hx:U32 x) {W:Int} (hW:W=putN (guardI 1)) :
  ∃ s l,z3i [] (begC (guardF p x a (b+fl)) true) (lone 0 W) []=(s,l,[])∧l.length=64∧(∀ j,U32 (z0p l j))∧GuardRes 1 (okG a b fl p 1) p x s (z0p l (p/4).toNat):=by
 have hm:=(guard_may 1).1
 have hWu:U32 W:=by rw[hW];unfold putN;rw[if_pos hm];exact put_u32 hm
 have hz:z0p (lone 0 W) (p/4).toNat=0:=lone_ne 0 _ W (by omega)
 rw[guard_first (by decide) hW,show guardI 1=⟨[115,119],(0:Nat),(1:Nat),(2:Nat),0⟩ from rfl,insC_sw]
 have e1:((z2t (begC (guardF p x a (b+fl)) true)).f 1+0%4294967296)%4294967296=p:=by
  show (p+0%4294967296)%4294967296=p
  omega
 rw[e1]
 have hl:=guard_lets ha hb h0 hp (k:=1) (by decide) (s:=z2t (begC (guardF p x a (b+fl)) true)) rfl (fun i hi=>set1_ne _ _ _ _ (by omega))
 have hk:askV (lone 0 W).length p 4=0:=by
  rw[lone_len]
  unfold askV
  rw[if_neg (by decide),if_neg (by omega),if_neg (by omega)]
 have hd:∀ q:Int,¬((z2t (begC (guardF p x a (b+fl)) true)).u=false∧(4:Int)=4∧p=q):=fun q e=>by
  have:=e.1
  cases this
 unfold z4z
 rw[if_neg (not_not_intro h4),if_neg (hd _),if_neg (hd _),if_neg (hd _),if_neg (hd _),if_neg (hd _),show (1:Int)=((1:Nat):Int) from rfl,hl,hz,hk]
 cases okG a b fl p 1
 ·rw[if_pos rfl]
  exact⟨_,_,rfl,lone_len _ _,lone_u 0 hWu,fun _=>⟨rfl,rfl,rfl,rfl,hz,rfl⟩,fun e=>(by cases e),fun e=>(by cases e),fun e=>(by cases e)⟩
 ·rw[if_neg (by decide),if_neg (by decide)]
  have hs:z3h 0 p 4 ((z2t (begC (guardF p x a (b+fl)) true)).f 2)=x:=store_word6 ⟨by decide,by decide⟩ hx h4
  rw[hs]
  have hw:z0p ((lone 0 W).set (p/4).toNat x) (p/4).toNat=x:=by
   unfold z0p
   rw[List.getD_eq_getElem?_getD,List.getElem?_set_self (by rw[lone_len];omega)]
   rfl
  refine⟨_,_,rfl,by rw[List.length_set,lone_len],fun j=>?_,fun e=>(by cases e),fun _ e=>(by cases e),fun _ _=>⟨rfl,rfl,hw⟩,fun _ e=>(by cases e)⟩
  show U32 (z0p ((lone 0 W).set (p/4).toNat x) j)
  by_cases hj:j=(p/4).toNat
  ·rw[hj,hw];exact hx
  ·have:z0p ((lone 0 W).set (p/4).toNat x) j=z0p (lone 0 W) j:=by
    unfold z0p
    rw[List.getD_eq_getElem?_getD,List.getD_eq_getElem?_getD,List.getElem?_set_ne (Ne.symm hj)]
   rw[this]
   exact lone_u 0 hWu j
theorem guard_go {p x a b fl:Int} (ha:a%4=0) (hb:b%4=0) (h0:0≤fl∧fl<4) (hp:4≤p∧p<256) (h4:p%4=0) {W:Int} (hW:W=putN (guardI 2)) :
  ∃ s1 s,z3i [] (begC (guardF p x a (b+fl)) true) (lone 0 W) []=(s1,lone 0 W,[])∧s1.stop=false∧z3i [] s1 (lone 0 W) []=(s,lone 0 W,[])∧GuardRes 2 (okG a b fl p 2) p x s (z0p (lone 0 W) (p/4).toNat):=by
 have hm:=(guard_may 2).1
 have hWu:U32 W:=by rw[hW];unfold putN;rw[if_pos hm];exact put_u32 hm
 have hz:z0p (lone 0 W) (p/4).toNat=0:=lone_ne 0 _ W (by omega)
 rw[guard_first (by decide) hW,show guardI 2=⟨[106,97,108,114],(4:Nat),(1:Nat),(0:Nat),0⟩ from rfl,insC_jalr,hz]
 have e1:((z2t (begC (guardF p x a (b+fl)) true)).f 1+0%4294967296)%4294967296/2*2=p:=by
  show (p+0%4294967296)%4294967296/2*2=p
  omega
 rw[e1]
 obtain⟨s1,hs1⟩:∃ s1,s1=(x0C (z2k (setX (z2t (begC (guardF p x a (b+fl)) true)) ((4:Nat):Int) (((z2t (begC (guardF p x a (b+fl)) true)).f 32+4)%4294967296)) p 2,lone 0 W,[])).1:=⟨_,rfl⟩
 have hu1:s1.u=true:=by rw[hs1];rfl
 have hp1:s1.f 32=p:=by rw[hs1];rfl
 have hv1:s1.f 36=252:=by rw[hs1];rfl
 have hx3:s1.f 3=0:=by rw[hs1];rfl
 have hx4:s1.f 4=4:=by rw[hs1];rfl
 have hset:s1.set=false:=by rw[hs1];rfl
 have hst:s1.stop=false:=by rw[hs1];rfl
 have hf1:∀ i,41≤i→s1.f i=guardF p x a (b+fl) i:=fun i hi=>by
  rw[hs1]
  show set1 (set1 (set1 (set1 (guardF p x a (b+fl)) 0 0) 4 _) 32 p) 0 0 i=_
  rw[set1_ne _ _ _ _ (by omega),set1_ne _ _ _ _ (by omega),set1_ne _ _ _ _ (by omega),set1_ne _ _ _ _ (by omega)]
 have hl:=guard_lets ha hb h0 hp (k:=2) (by decide) hu1 hf1
 rw[show ((2:Nat):Int)=2 from rfl] at hl
 cases hok:okG a b fl p 2
 ·rw[hok] at hl
  refine⟨s1,_,by rw[hs1];rfl,hst,step_shut hst (timer_off hset) (by rw[hp1];exact h4) (by rw[hp1];exact hl),fun _=>⟨hv1,rfl,rfl,hp1,rfl,hx3⟩,fun e=>(by cases e),fun e=>(by cases e),fun e=>(by cases e)⟩
 ·rw[hok] at hl
  obtain⟨k,hk⟩:=Int.eq_ofNat_of_zero_le (show 0≤p/4 by omega)
  have hw:z0p (lone 0 W) k=0:=lone_ne 0 k W (by omega)
  refine⟨s1,_,by rw[hs1];rfl,hst,step_none (k:=k) hst (timer_off hset) (lone_u 0 hWu) (by rw[hp1];omega) (by rw[lone_len];omega) (by rw[hp1];exact hl) (by rw[hw];exact get_zero),fun e=>(by cases e),fun _ e=>(by cases e),fun _ e=>(by cases e),fun _ _=>⟨rfl,hp1,hx4⟩⟩
theorem putN_u (i:MIns):U32 (putN i):=by
 unfold putN
 split
 ·rename_i h;exact put_u32 h
 ·exact⟨by decide,by decide⟩
theorem fldW (v e:Value) (w:World):(Instr.field 73 (.agg #[v,e]) 0).run Tryz.prog w=.ok v w:=by kernel_rfl
theorem kWord (s:ByteArray) (d a b m:Int) (w:World) :
  Calls Tryz.prog 12 #[.agg #[.string s,.int .i64 d,.int .i64 a,.int .i64 b,.int .i32 m]] w fun e w'=>e=.returned (.int .u32 (putN ⟨s.toList,d,a,b,m⟩))∧Below w.heap.size w w':=by
 have CP:Hid _:=rPut s d a b m
 have fd:=fldW
 generalize putN ⟨s.toList,d,a,b,m⟩=x at *
 generalize putE ⟨s.toList,d,a,b,m⟩=e at *
 go_enter Tryz.func12,Tryz.ntmps12
 go_wp2_with fail
 refine (CP.out _).mono ?_
 rintro e1 w1 ⟨rfl,b1⟩
 have B1:=z1u b1
 go_wp2
 go_ret
 exact⟨rfl,B1⟩
section
section
variable {ops:Array Oper} {rest:List Oper} {o:Oper} {a:Act} {w:World} {Q:Exit→Act→World→Prop}
theorem wpList_load_reg_is (hgd:Region.wanted o (yielded ops a.tmps)=true) {x:Operand} (ho:o.op=.load 31 x) {b i:Nat} (hx:a.eval x=.pointer (some ⟨b,i,none⟩)) {f:Nat→Int} {u:Bool} {t:TypeId} (hw:w.heap[b]?=some (.cells (z0c f u) t)) (hi:i<57) (h3:i≠33) {y:Int} (hy:f i=y)
  (h:wpList Tryz.prog ops Q rest (a.put o.dst (.int .u32 y)) w):wpList Tryz.prog ops Q (o::rest) a w:=by
 subst hy
 refine BigFrame.wpList_want hgd fun K hK=>?_
 unfold Oper.wp execOp
 have hv:(z0c f u)[i]?=some (.int .u32 (f i)):=by rw[z2d f u i hi];unfold rv;rw[if_neg h3]
 simp only[ho,hx,Sem.run_bind,Sem.run_pure,Result.andThen_ok,load_u32 ((z0a hw).1 i _ hv)]
 exact hK _ _ h
end
end
section
def wordsC (l:List Int):Array Value:=(l.map (Value.int .u32 ·)).toArray
theorem wordsC_size (l:List Int):(wordsC l).size=l.length:=by simp[wordsC]
theorem wordsC_at (l:List Int) (i:Nat) (h:i<l.length):(wordsC l)[i]?=some (.int .u32 (z0p l i)):=by
 unfold wordsC z0p
 rw[List.getElem?_toArray,List.getElem?_map,List.getElem?_eq_getElem h,List.getD_eq_getElem?_getD,List.getElem?_eq_getElem h]
 rfl
theorem wordsC_set (l:List Int) (i:Nat) (x:Int):(wordsC l).setIfInBounds i (.int .u32 x)=wordsC (l.set i x):=by
 unfold wordsC
 rw[List.setIfInBounds_toArray,List.map_set]
theorem words_cells {w:World} {b:Nat} {l:List Int} {t:TypeId} (h:w.heap[b]?=some (.cells (wordsC l) t)):∀ i,i<l.length→w.cell? ⟨b,0+i,none⟩=some (.int .u32 (z0p l i)):=fun i hi=>by
 rw[Nat.zero_add]
 exact (z0a h).1 i _ (wordsC_at l i hi)
def noughts (n:Nat):List Int:=List.replicate n 0
section
variable {ops:Array Oper} {rest:List Oper} {o:Oper} {a:Act} {w:World} {Q:Exit→Act→World→Prop}
theorem wpList_store_word (hgd:o.guard=none) {x y:Operand} (ho:o.op=.store 31 x y) {b i:Nat} (hx:a.eval x=.pointer (some ⟨b,i,none⟩)) {n:Int} (hy:a.eval y=.int .u32 n) {l:List Int} {t:TypeId} (hw:w.heap[b]?=some (.cells (wordsC l) t)) (hi:i<l.length)
  (h:∀ w',w'.heap[b]?=some (.cells (wordsC (l.set i n)) t)→(∀ k,k≠b→w'.heap[k]?=w.heap[k]?)→(∀ (B:Nat) (w0:World),B≤b→Below B w0 w→Below B w0 w')→w'.heap.size=w.heap.size→wpList Tryz.prog ops Q rest (a.put o.dst undef) w'):wpList Tryz.prog ops Q (o::rest) a w:=
 wpList_store_u32 hgd ho hx hy hw (wordsC_at l i hi) fun w' hW=>h w' (by rw[← wordsC_set];exact hW.block) hW.other hW.below hW.size
theorem wpList_built57 (hg:o.guard=none) (xs:Array (Nat × Operand)) (ho:o.op=.build 37 xs) (vs:List (Nat × Value)) (hv:(xs.map fun (i,x)=>(i,a.eval x)).toList=vs) (f:Nat→Int) (u:Bool) (e:Tryz.prog.built 37 vs=some (z0c f u))
  (h:wpList Tryz.prog ops Q rest (a.put o.dst (.agg (z0c f u))) w):wpList Tryz.prog ops Q (o::rest) a w:=by
 refine wpList_build hg _ _ ho ?_ ?_
 ·rw[hv,e];rfl
 ·rw[hv,e];exact h
theorem wpList_user_is (hgd:Region.wanted o (yielded ops a.tmps)=true) {x:Operand} (ho:o.op=.load 4 x) {b:Nat} (hx:a.eval x=.pointer (some ⟨b,33,none⟩)) {f:Nat→Int} {u:Bool} {t:TypeId} (hw:w.heap[b]?=some (.cells (z0c f u) t)) {v:Bool} (hv:u=v)
  (h:wpList Tryz.prog ops Q rest (a.put o.dst (.bool v)) w):wpList Tryz.prog ops Q (o::rest) a w:=by
 subst hv
 refine BigFrame.wpList_want hgd fun K hK=>?_
 unfold Oper.wp execOp
 have hv:(z0c f u)[33]?=some (.bool u):=rfl
 simp only[ho,hx,Sem.run_bind,Sem.run_pure,Result.andThen_ok,load_bool ((z0a hw).1 33 _ hv)]
 exact hK _ _ h
end
theorem range_cut {w:World} {b k:Nat} {cs:Array Value} {t:TypeId} {l:List Value} (n:Nat) (h:w.heap[b]?=some (.cells cs t)) (e:(cs.toList.drop k).take n=l):w.rangeAt b k l:=fun j v hv=>by
 subst e
 rw[List.getElem?_take] at hv
 split at hv
 ·rw[List.getElem?_drop,Array.getElem?_toList] at hv
  exact (z0a h).1 _ _ hv
 ·cases hv
theorem infoIns:(Tryz.prog.info? 24).map (·.size)=some 5:=by kernel_rfl
theorem undIns:∃ fs,Tryz.prog.underlying 24=some (.struct fs):=⟨_,Tryz.underlying24⟩
theorem One.word {Is:z6d} (K:CoreK Is) {w0 w:World} {late:List Int} {p N i:Nat} {F:Nat→Prop} {s:CS} {l:List Int} {es:List Ev} (h:One Is w0 late p N i w F s l es) (k:Nat) (hk:k<N) (hN:N≤1000) (x:Int) (hx:x=4*(k:Int)) :
  Calls Tryz.prog 21 #[.pointer (some ⟨p,0,none⟩),.int .u32 x] w fun e w'=>e=.returned (.tuple #[.int .u32 (z0p l k),.int .i64 0])∧Below w.heap.size w w':=by
 subst hx
 have hk':k<l.length:=by rw[h.len];exact hk
 have CW:=K.word h.imp (4*(k:Int)) ⟨by omega,by omega⟩
 rw[show z2r l.length l (4*(k:Int)) 4 false=z0p l k by unfold z2r;rw[if_pos (ask_word hk')];exact load_word h.mem k,ask_word hk'] at CW
 exact CW
theorem eqPtr2 (a:Option Addr) (w:World):(binOp .eql 27 (.pointer a) (.pointer none)).run Tryz.prog w=.ok (.bool a.isNone) w:=by cases a <;> kernel_rfl
theorem built_jump (pc:Int):Tryz.prog.built 37 [(1,.int .u32 pc),(5,.int .u32 252)]=some (z0c (set1 (set1 (fun _=>0) 32 pc) 36 252) false):=by kernel_rfl
theorem built_fault (u:Bool):Tryz.prog.built 37 [(1,.int .u32 8),(2,.bool u),(5,.int .u32 16)]=some (z0c (set1 (set1 (fun _=>0) 32 8) 36 16) u):=by kernel_rfl
theorem built_guard:Tryz.prog.built 37 [(2,.bool true),(5,.int .u32 252)]=some (z0c (set1 (fun _=>0) 36 252) true):=by kernel_rfl
theorem built_timer:Tryz.prog.built 37 [(1,.int .u32 80),(5,.int .u32 128),(4,.int .u32 128),(3,.int .u32 136)]=some (z0c (set1 (set1 (set1 (set1 (fun _=>0) 32 80) 36 128) 35 128) 34 136) false):=by kernel_rfl
theorem or_odd32:∀ k:Fin 120,bits .or .i32 (2*(k.1:Int)) 1=2*(k.1:Int)+1:=by decide +kernel
theorem or_odd {t:Int} (h0:0≤t∧t<240) (h2:t%2=0):bits .or .i32 t 1=t+1:=by
 obtain⟨k,hk⟩:=Int.eq_ofNat_of_zero_le (show 0≤t/2 by omega)
 have e:t=2*(k:Int):=by omega
 have:=or_odd32 ⟨k,by omega⟩
 rw[e]
 exact this
end
end Go.Proofs.YtilcoimelnpkeaaGreatDoor
