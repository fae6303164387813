/-
  Contracts of functions that the statement reaches, and what they are made of, callees first.
-/
import Derived.Test.YtbmnmbkgdalkcaaGreatDoorPzs
set_option maxRecDepth 100000
set_option maxHeartbeats 8000000
namespace Go.Proofs.YtbmnmbkgdalkcaaGreatDoor
open Go.RowKit
structure BegSt (w:World) (u:Bool) (rb:Nat) (wr:World):Prop where
 row:∃ f:Nat→Int,(∀ i,U32 (f i))∧wr.heap[rb]?=some (.cells (z0c f u) 32)
 res:wr.heap[w.heap.size]?=some (.cells (z0c (fun _=>0) false) 32)
 below:Below w.heap.size w wr
theorem kBegin (a':Option Addr) (n' cap':Nat) (zs':List Int) (u:Bool) (w:World) (b' off':Nat)
  (hm':n'≤maxLen) (ha':0<n'→a'=some ⟨b',off',none⟩∧b'<w.heap.size) (hc':∀ i,i<n'→w.cell? ⟨b',off'+i,none⟩=some (.int .u32 (zs'.getD i 0))) (hu':∀ z∈zs',U32 z) :
  Calls Tryz.prog 7 #[.slice a' n' cap',.bool u] w fun e w'=>∃ f:Nat→Int,(∀ i,U32 (f i))∧e=.returned (.agg (z0c f u))∧Below w.heap.size w w':=by
 have b0:Below w.heap.size w (w.alloc (.cells (z0c (fun _=>0) false) 32)):=(Below.refl _ _).alloc (Nat.le_refl _) _
 have CR:Hid _:=lregs a' b' off' n' cap' zs' u (w.alloc (.cells (z0c (fun _=>0) false) 32)) hm' (fun h=>⟨(ha' h).1,Nat.lt_of_lt_of_le (ha' h).2 b0.size⟩) (fun i hi=>by rw[b0.cell (p:=⟨b',off'+i,none⟩) (ha' (by omega)).2];exact hc' i hi)
 have HF:Hid (∀ i,U32 (regsF zs' n' i)):=fun i=>regsP_u (wat_u hu' n') 8 i
 have Z0:=z0g w (.cells (z0c (fun _=>0) false) 32)
 obtain⟨fs,hfs⟩:=z3f
 have HS:Hid _:=hfs
 clear hm' ha' hc' hu' hfs
 generalize regsF zs' n'=f at *
 go_enter Tryz.func7,Tryz.ntmps7
 go_wp2_with fail
 refine (Calls.mono CR.out ?_)
 rintro e w1 ⟨rfl,b1⟩
 have Z1:=z0f Z0 b1
 have B1:=z1u b1
 have hlt:w.heap.size<w1.heap.size:=(Array.getElem?_eq_some_iff.1 Z1).1
 clear b0 CR Z0 b1
 go_wp2_with (first | (refine z4p rfl 32 (.tmp 5) (.tmp 9) rfl rfl (z0c _ _) rfl 32 _ (by rw[z0b];exact z0o) (by rw[z8d,z0b,z0b]) (z0s _ _) ?_))
 intro w2 R2 b2
 have Z2:=z0f Z1 b2
 have B2:=z0e B1 b2
 clear Z1 B1 b2
 generalize w1.heap.size=rb at *
 obtain⟨p0,p1⟩:=HF.out 32
 obtain⟨q0,q1⟩:=HF.out 36
 obtain⟨r0,r1⟩:=HF.out 38
 go_wp2_with (first | (refine z0k rfl rfl rfl (by assumption) (by decide) (by decide) ?_) | (refine z0h rfl rfl rfl rfl (by assumption) (by decide) (by decide) ?_;intro wn Rn HO HL;have Zn:=Eq.trans (HO w.heap.size (by omega)) (by assumption);have Bn:=HL w.heap.size w (by omega) (by assumption);clear HO HL))
 have S0:Hid (BegSt w u rb wn):=by
  refine⟨⟨_,?_,Rn⟩,Zn,Bn⟩
  refine z4m (z4m (z4m (z4m HF.out _ ?_) _ ?_) _ ?_) _ ?_
  all_goals first | exact z1t _ _ _ | exact⟨by omega,by omega⟩ | exact⟨by unfold set1;simp;omega,by unfold set1;simp;omega⟩ | exact⟨by simp only[set1];simp;omega,by simp only[set1];simp;omega⟩
 clear R2 Z2 B2 Rn Zn Bn p0 p1 q0 q1 r0 r1 HF
 go_loopw [6] (fun i wr=>∃ k:Nat,k≤8∧i=.int .i64 k∧Hid (BegSt w u rb wr)) (fun i _=>8-(intOf i).toNat)
 case atStart=>exact⟨0,Nat.zero_le _,rfl,S0.out⟩
 case round=>
  clear S0
  obtain⟨k,hk,rfl,hr⟩:=hrel
  obtain⟨g,hg,R3⟩:=hr.out.row
  have Z3:=hr.out.res
  have B3:=hr.out.below
  clear hr
  by_cases hlt8:k<8
  ·have i5:(0:Int)≤(k:Int):=by omega
   have i7:(k:Int)<32:=by omega
   obtain⟨p0,p1⟩:=hg k
   go_wp2_with (first | (refine z0k rfl rfl rfl (by assumption) (by omega) (by omega) ?_) | (refine z0h rfl rfl rfl rfl (by assumption) (by omega) (by omega) ?_;intro wn Rn HO HL;have Zn:=Eq.trans (HO w.heap.size (by omega)) (by assumption);have Bn:=HL w.heap.size w (by omega) (by assumption);clear HO HL))
   exact⟨⟨k+1,hlt8,by go_num,⟨_,z4m hg k ⟨by omega,by omega⟩,Rn⟩,Zn,Bn⟩,by simp[intOf];omega⟩
  ·have hk8:k=8:=by omega
   subst hk8
   obtain⟨p0,p1⟩:=hg 5
   obtain⟨q0,q1⟩:=hg 42
   go_wp2_with (first | (refine z0k rfl rfl rfl (by assumption) (by decide) (by decide) ?_) | (refine z0h rfl rfl rfl rfl (by assumption) (by decide) (by decide) ?_;intro wn Rn HO HL;have Zn:=Eq.trans (HO w.heap.size (by omega)) (by assumption);have Bn:=HL w.heap.size w (by omega) (by assumption);clear HO HL) | (refine z7d (by rfl) 32 (.tmp 5) rfl _ rfl _ _ _ (by assumption) HS.out rfl (by rw[z0b];exact z0o) ?_) | (refine wpList_store_row rfl 32 (.tmp 4) (.tmp 58) rfl _ (z0c _ _) rfl rfl _ _ (by assumption) (by rw[z0b];exact z0o) (by rw[z0b];rfl) (z0s _ _) ?_))
   refine bodyPost_ret (results_cell_row rfl _ _ _ _ _ _ _ rfl (setRow_heap _ _ _ _ _ _ (by assumption)) HS.out rfl (by rw[z0b];exact z0o)) rfl ⟨_,?_,rfl,below_setRow (by assumption) (Nat.le_refl _) _⟩
   refine z4m (z4m (z4m hg _ ?_) _ ?_) _ ?_
   all_goals first | exact z1t _ _ _ | exact⟨by decide,by decide⟩ | exact⟨by omega,by omega⟩ | exact⟨by unfold set1;simp;omega,by unfold set1;simp;omega⟩
end Go.Proofs.YtbmnmbkgdalkcaaGreatDoor
