/-
  Contracts of functions that the statement reaches, and what they are made of, callees first.
-/
import Derived.BigQuiet
import Derived.Deep.AppendLies
import Derived.Deep.LoopGhost
import Derived.Deep.QuietTactic
import Derived.DeepKeys4
import Derived.Maps.OwnSet
import Derived.StillTailTactics
import Derived.Test.YtbmnmbkgdalkcaaGreatDoorShl
import Derived.WalkKit
import Derived.WalkLawsBesides
import Derived.WalkSpells
import Derived.Test.YtbmnmbkgdalkcaaGreatDoorPzWordo
import Derived.Test.YtbmnmbkgdalkcaaGreatDoorPza
import Derived.Test.YtbmnmbkgdalkcaaGreatDoorPzc
import Derived.Test.YtbmnmbkgdalkcaaGreatDoorPze
import Derived.Test.YtbmnmbkgdalkcaaGreatDoorPzj
set_option maxRecDepth 100000
set_option maxHeartbeats 8000000
namespace Go.Proofs.YtbmnmbkgdalkcaaGreatDoor
open Go.RowKit
def z1a (s:CS) (i:Nat):Value:=
 if i=0 then s.m else if i<58 then rv s.f s.u (i-1) else if i=58 then .int .i64 s.t else if i=59 then .bool s.set else if i=60 then .int .i64 s.cmp else if i=61 then s.la else if i=62 then .int .i64 s.task
 else if i=63 then .int .i64 s.kind else if i=64 then .int .u32 0 else if i=65 then s.ev else if i=66 then .int .u32 s.lp else if i=67 then .int .u32 s.lat else if i=68 then .int .i64 s.lt else .bool s.stop
structure LAt (w:World) (c:Nat) (s:CS):Prop where
 is:w.heap[c]?=some (.cells (z3q 70 (z1a s)) 65)
theorem LAt.cell {w:World} {c:Nat} {s:CS} (h:LAt w c s) (i:Nat) (hi:i<70):w.cell? ⟨c,i,none⟩=some (z1a s i):=(z0a h.is).1 i _ (z6u _ _ i hi)
theorem LAt.free {w:World} {c:Nat} {s:CS} (h:LAt w c s) (i:Nat):w.frozen? ⟨c,i,none⟩=false:=(z0a h.is).2.1 i
theorem LAt.lt {w:World} {c:Nat} {s:CS} (h:LAt w c s):c<w.heap.size:=(z0a h.is).2.2
theorem LAt.below {w w':World} {c:Nat} {s:CS} (h:LAt w c s) (hb:Below w.heap.size w w'):LAt w' c s:=⟨z0f h.is hb⟩
theorem LAt.drew {w:World} {c:Nat} {s:CS} (h:LAt w c s):LAt w.drew c s:=⟨h.is⟩
theorem LAt.chg {w w':World} {c:Nat} {s:CS} {O:Nat→Prop} (h:LAt w c s) (hg:Chg O w w') (ho:¬O c):LAt w' c s:=⟨hg.kept h.is ho⟩
theorem LAt.put {w:World} {c:Nat} {s s':CS} (h:LAt w c s) (i:Nat) (v:Value) (e:∀ j,j<70→z1a s' j=updC (z1a s) i v j):LAt (w.setCell ⟨c,i,none⟩ v) c s':=by
 refine⟨?_⟩
 rw[z1p v h.is,cellsN_put,z9c fun j hj=>(e j hj).symm]
theorem lg_reg (s:CS) (i:Nat) (hi:i<57) (h3:i≠33) (x:Int) (j:Nat):z1a { s with f:=set1 s.f i x } j=updC (z1a s) (i+1) (.int .u32 x) j:=by
 unfold updC
 by_cases h:j=i+1
 ·subst h
  rw[if_pos rfl]
  unfold z1a
  rw[if_neg (by omega),if_pos (by omega),Nat.add_sub_cancel]
  simp[rv,set1,h3]
 ·rw[if_neg h]
  unfold z1a
  by_cases h0:j=0
  ·rw[if_pos h0,if_pos h0]
  ·rw[if_neg h0,if_neg h0]
   by_cases h1:j<58
   ·rw[if_pos h1,if_pos h1]
    unfold rv
    by_cases h2:j-1=33
    ·rw[if_pos h2,if_pos h2]
    ·rw[if_neg h2,if_neg h2]
     show Value.int .u32 (set1 s.f i x (j-1))=_
     unfold set1
     rw[if_neg (by omega)]
   ·rw[if_neg h1,if_neg h1]
theorem lg_t (s:CS) (x:Int) (j:Nat):z1a { s with t:=x } j=updC (z1a s) 58 (.int .i64 x) j:=by
 unfold updC z1a
 by_cases h:j=58
 ·subst h;simp
 ·simp[h]
theorem lg_set (s:CS) (x:Bool) (j:Nat):z1a { s with set:=x } j=updC (z1a s) 59 (.bool x) j:=by
 unfold updC z1a
 by_cases h:j=59
 ·subst h;simp
 ·simp[h]
theorem lg_cmp (s:CS) (x:Int) (j:Nat):z1a { s with cmp:=x } j=updC (z1a s) 60 (.int .i64 x) j:=by
 unfold updC z1a
 by_cases h:j=60
 ·subst h;simp
 ·simp[h]
theorem lg_la (s:CS) (x:Value) (j:Nat):z1a { s with la:=x } j=updC (z1a s) 61 (x) j:=by
 unfold updC z1a
 by_cases h:j=61
 ·subst h;simp
 ·simp[h]
theorem lg_task (s:CS) (x:Int) (j:Nat):z1a { s with task:=x } j=updC (z1a s) 62 (.int .i64 x) j:=by
 unfold updC z1a
 by_cases h:j=62
 ·subst h;simp
 ·simp[h]
theorem lg_kind (s:CS) (x:Int) (j:Nat):z1a { s with kind:=x } j=updC (z1a s) 63 (.int .i64 x) j:=by
 unfold updC z1a
 by_cases h:j=63
 ·subst h;simp
 ·simp[h]
theorem lg_ev (s:CS) (x:Value) (j:Nat):z1a { s with ev:=x } j=updC (z1a s) 65 (x) j:=by
 unfold updC z1a
 by_cases h:j=65
 ·subst h;simp
 ·simp[h]
theorem lg_lp (s:CS) (x:Int) (j:Nat):z1a { s with lp:=x } j=updC (z1a s) 66 (.int .u32 x) j:=by
 unfold updC z1a
 by_cases h:j=66
 ·subst h;simp
 ·simp[h]
theorem lg_lat (s:CS) (x:Int) (j:Nat):z1a { s with lat:=x } j=updC (z1a s) 67 (.int .u32 x) j:=by
 unfold updC z1a
 by_cases h:j=67
 ·subst h;simp
 ·simp[h]
theorem lg_lt (s:CS) (x:Int) (j:Nat):z1a { s with lt:=x } j=updC (z1a s) 68 (.int .i64 x) j:=by
 unfold updC z1a
 by_cases h:j=68
 ·subst h;simp
 ·simp[h]
theorem lg_stop (s:CS) (x:Bool) (j:Nat) (hj:j<70):z1a { s with stop:=x } j=updC (z1a s) 69 (.bool x) j:=by
 unfold updC z1a
 by_cases h:j=69
 ·subst h;simp
 ·rw[if_neg h]
  rcases (by omega:j<58∨j=58∨j=59∨j=60∨j=61∨j=62∨j=63∨j=64∨j=65∨j=66∨j=67∨j=68) with h1 | h1 | h1 | h1 | h1 | h1 | h1 | h1 | h1 | h1 | h1 | h1
  ·by_cases h0:j=0
   ·rw[if_pos h0,if_pos h0]
   ·rw[if_neg h0,if_neg h0,if_pos h1,if_pos h1]
  all_goals (subst h1;rfl)
theorem lg_regs (s:CS) (f:Nat→Int) (u:Bool) (j:Nat):z1a { s with f:=f,u:=u } j=splC (z1a s) 1 (z0c f u).toList j:=by
 unfold splC
 have hl:(z0c f u).toList.length=57:=by rw[Array.length_toList,z0b]
 by_cases h:1≤j∧j<1+(z0c f u).toList.length
 ·rw[if_pos h]
  rw[hl] at h
  have e:(z0c f u).toList.getD (j-1) undef=rv f u (j-1):=by
   rw[List.getD_eq_getElem?_getD,Array.getElem?_toList,z2d _ _ _ (by omega)]
   rfl
  rw[e]
  unfold z1a
  rw[if_neg (by omega),if_pos (by omega)]
 ·rw[if_neg h]
  rw[hl] at h
  unfold z1a
  by_cases h0:j=0
  ·rw[if_pos h0,if_pos h0]
  ·have h1:¬j<58:=by omega
   rw[if_neg h0,if_neg h0,if_neg h1,if_neg h1]
theorem LAt.regs {w:World} {c:Nat} {s:CS} (h:LAt w c s):w.rangeAt c 1 (z0c s.f s.u).toList:=by
 have hl:(z0c s.f s.u).toList.length=57:=by rw[Array.length_toList,z0b]
 refine z7a h.is 1 _ (by rw[hl];decide) fun j v hv=>?_
 have hj:j<57:=by have:=(List.getElem?_eq_some_iff.1 hv).1;rwa [hl] at this
 rw[Array.getElem?_toList,z2d _ _ _ hj,Option.some.injEq] at hv
 rw[← hv]
 unfold z1a
 rw[if_neg (by omega),if_pos (by omega),Nat.add_sub_cancel_left]
theorem LAt.regsIn {w:World} {c:Nat} {s:CS} (h:LAt w c s) (f:Nat→Int) (u:Bool):LAt (w.setCells c 1 (z0c f u).toList) c { s with f:=f,u:=u }:=by
 refine⟨?_⟩
 rw[z5v _ 1 _ _ h.is,z9c fun j _=>(lg_regs s f u j).symm]
theorem LAt.there {w:World} {c:Nat} {s:CS} (h:LAt w c s):w.there c 1 57:=cellsN_there h.is 1 57 (by decide)
structure LateL (w:World) (g:Nat) (v:Value) (late:List Int) (came:Nat):Prop where
 is:∃ sa cap off,v=.slice sa (late.length-came) cap∧late.length-came≤cap∧(came<late.length→sa=some ⟨g,off,none⟩∧g<w.heap.size∧∀ i,came+i<late.length→w.cell? ⟨g,off+i,none⟩=some (.int .i64 (late.getD (came+i) 0)))
section
open Go.RowKit Go.Maps
theorem sundK:∃ fs,Tryz.prog.underlying 91=some (.struct fs):=⟨_,Tryz.underlying91⟩
theorem sundM:Tryz.prog.underlying 117=some (.map 91 3):=by kernel_rfl
theorem sundE:Tryz.prog.underlying 3=some (.int .i64):=by kernel_rfl
theorem slaidB:laidOutB Tryz.prog=true:=by kernel_rfl
theorem srowK:(91:TypeId)<Tryz.prog.types.size:=of_decide_eq_true (by kernel_rfl)
theorem skeyed:Keyed Tryz.prog 91:=Keyed.of_law (deep_law_laid slaidB (m:=2) (by omega) srowK (by kernel_rfl) (by obtain⟨fs,h⟩:=sundK;rw[h]))
def shV (k f:Int):Value:=.agg #[.int .i64 k,.int .i64 f]
def z4h:List (Int × Int × Int):=[(1,2,1),(2,2,3),(3,2,20),(7,2,2),(9,2,1),(1,3,1),(4,3,1),(5,3,2),(6,3,2),(8,3,2),(10,1,4),(11,1,1),(12,1,1),(13,1,4)]
def kS (k f:Int):Lit:=.string (keyBytes [.int .i64 k,.int .i64 f])
theorem skey_of:∀ q∈z4h,keyOf Tryz.prog 91 (shV q.1 q.2.1)=some (kS q.1 q.2.1):=by
 intro q hq
 simp only[z4h,List.mem_cons,List.not_mem_nil,or_false] at hq
 rcases hq with rfl | rfl | rfl | rfl | rfl | rfl | rfl | rfl | rfl | rfl | rfl | rfl | rfl | rfl <;> kernel_rfl
theorem kS_ne {p q:Int × Int × Int} (hp:p∈z4h) (hq:q∈z4h) (h:¬(p.1=q.1∧p.2.1=q.2.1)):kS p.1 p.2.1≠kS q.1 q.2.1:=fun e=>by
 have h1:=skey_of p hp
 rw[e] at h1
 have:=skeyed.inj h1 (skey_of q hq)
 unfold shV at this
 injection this with e2
 simp only[Array.mk.injEq,List.cons.injEq,Value.int.injEq,true_and,and_true] at e2
 exact h e2
structure CostSt (T:List (Nat × Int × Int × Int)) (w0:World) (g:Nat) (n:Nat) (listed:Array Bool) (w:World):Prop where
 own:∃ (D:DataW Unit) (k:Nat),k+n≤5∧w.ownsMap Tryz.prog 91 (plainElem Tryz.prog 3) g k D∧∀ q∈T,listed.getD q.1 false=true→∀ z,D.atKey (kS q.2.1 q.2.2.1) z=.lit (.int .i64 q.2.2.2)
 below:Below w0.heap.size w0 w
 ge:w0.heap.size≤g
theorem z3c {T:List (Nat × Int × Int × Int)} (hT:∀ q∈T,q.2∈z4h) (hI:∀ p∈T,∀ q∈T,p.1≠q.1→¬(p.2.1=q.2.1∧p.2.2.1=q.2.2.1)) (hJ:∀ p∈T,∀ q∈T,p.1=q.1→p=q) {w0:World} {g n:Nat} {listed:Array Bool} {w:World} (h:CostSt T w0 g (n+1) listed w) {q:Nat × Int × Int × Int} (hq:q∈T) :
  ∃ w',(Instr.mapUpdate 117 (.map (some g)) (shV q.2.1 q.2.2.1) (.int .i64 q.2.2.2)).run Tryz.prog w=.ok () w'∧CostSt T w0 g n (listed.setIfInBounds q.1 true) w':=by
 obtain⟨⟨D,k,hk,h1,h2⟩,h3,h4⟩:=h
 have hk':k+1+n≤5:=by omega
 have hm:k<maxLen:=by unfold maxLen;omega
 have hkey:=skey_of q.2 (hT q hq)
 have hwf:(Lit.int .i64 q.2.2.2).wf=true:=by
  have:∀ s∈z4h,(Lit.int .i64 s.2.2).wf=true:=by
   intro s hs
   simp only[z4h,List.mem_cons,List.not_mem_nil,or_false] at hs
   rcases hs with rfl | rfl | rfl | rfl | rfl | rfl | rfl | rfl | rfl | rfl | rfl | rfl | rfl | rfl <;> rfl
  exact this _ (hT q hq)
 obtain⟨w',e1,e2,e3⟩:=h1.update skeyed sundM hm hkey (plainElem_int sundE hwf)
 refine⟨w',e1,⟨⟨_,k+1,hk',e2,fun p hp hl z=>?_⟩,z4b h3 e3 h3.size h4,h4⟩⟩
 by_cases hpq:p.1=q.1
 ·rw[hJ p hp q hq hpq]
  exact atKey_put_same h1.isMap (skeyed.key hkey) _ z
 ·rw[atKey_put_other (kS_ne (hT p hp) (hT q hq) (hI p hp q hq hpq))]
  refine h2 p hp ?_ z
  rw[Array.getD_eq_getD_getElem?,Array.getElem?_setIfInBounds_ne (Ne.symm hpq),← Array.getD_eq_getD_getElem?] at hl
  exact hl
theorem cost_look {w:World} {g k:Nat} {D:DataW Unit} (hown:w.ownsMap Tryz.prog 91 (plainElem Tryz.prog 3) g k D) {q:Int × Int × Int} (hq:q∈z4h) (hD:∀ z,D.atKey (kS q.1 q.2.1) z=.lit (.int .i64 q.2.2)) :
  (Instr.lookup 117 (.map (some g)) (shV q.1 q.2.1) false).run Tryz.prog w=.ok (.int .i64 q.2.2) w:=by
 obtain⟨v,ps,e1,e2⟩:=hown.lookup skeyed sundM (show (zeroValue 3).run Tryz.prog w=.ok (.int .i64 0) w by kernel_rfl) (plainElem_int sundE (show (Lit.int .i64 0).wf=true from rfl)) (skey_of q hq)
 rw[hD] at e2
 obtain⟨y,rfl,hy,_⟩:=plainElem_int_inv sundE e2
 have hy1:=congrArg Prod.fst hy
 simp only[DataW.lit.injEq,Lit.int.injEq,true_and] at hy1
 rw[e1,hy1]
structure CostMap (T:List (Nat × Int × Int × Int)) (w:World) (g:Nat):Prop where
 own:∃ (D:DataW Unit) (k:Nat),w.ownsMap Tryz.prog 91 (plainElem Tryz.prog 3) g k D∧∀ q∈T,∀ z,D.atKey (kS q.2.1 q.2.2.1) z=.lit (.int .i64 q.2.2.2)
def T2:List (Nat × Int × Int × Int):=[(2,1,2,1),(4,2,2,3),(6,3,2,20),(8,7,2,2),(10,9,2,1)]
def T3:List (Nat × Int × Int × Int):=[(2,1,3,1),(4,4,3,1),(6,5,3,2),(8,6,3,2),(10,8,3,2)]
def T1:List (Nat × Int × Int × Int):=[(2,10,1,4),(4,11,1,1),(6,12,1,1),(8,13,1,4)]
theorem T1_in:∀ q∈T1,q.2∈z4h:=by decide
theorem T1_ne:∀ p∈T1,∀ q∈T1,p.1≠q.1→¬(p.2.1=q.2.1∧p.2.2.1=q.2.2.1):=by decide
theorem T1_one:∀ p∈T1,∀ q∈T1,p.1=q.1→p=q:=by decide
theorem T2_in:∀ q∈T2,q.2∈z4h:=by decide
theorem T2_ne:∀ p∈T2,∀ q∈T2,p.1≠q.1→¬(p.2.1=q.2.1∧p.2.2.1=q.2.2.1):=by decide
theorem T2_one:∀ p∈T2,∀ q∈T2,p.1=q.1→p=q:=by decide
theorem T3_in:∀ q∈T3,q.2∈z4h:=by decide
theorem T3_ne:∀ p∈T3,∀ q∈T3,p.1≠q.1→¬(p.2.1=q.2.1∧p.2.2.1=q.2.2.1):=by decide
theorem T3_one:∀ p∈T3,∀ q∈T3,p.1=q.1→p=q:=by decide
theorem ccosts2 (w:World):Calls Tryz.prog 66 #[.int .i64 2] w fun e w'=>∃ g,e=.returned (.map (some g))∧w.heap.size≤g∧CostMap T2 w' g∧Below w.heap.size w w':=by
 go_enter Tryz.func66,Tryz.ntmps66
 go_wp2_with fail
 refine wp_region_noPanic ?_
 refine wp_region_held_drew (S:=fun _=>True) (by kernel_rfl) True.intro (fun hHeld=>?_)
 refine z0n 1 (some 7) (v:=?_) rfl rfl (by kernel_rfl) (by kernel_rfl) (by kernel_rfl) (fun _ _ _ h=>h) (Or.inl ⟨by rfl,?_⟩) True.intro ?_
 rotate_left
 ·intro w hSw
  go_simp
  try with_reducible rfl
 simp only[Act.put,List.setIfInBounds_toArray,List.set_cons_zero,List.set_cons_succ]
 refine z0n 3 (some 8) (v:=?_) rfl rfl (by kernel_rfl) (by kernel_rfl) (by kernel_rfl) (fun _ _ _ h=>h) (Or.inl ⟨by rfl,?_⟩) True.intro ?_
 rotate_left
 ·intro w hSw
  go_simp
  try with_reducible rfl
 simp only[Act.put,List.setIfInBounds_toArray,List.set_cons_zero,List.set_cons_succ]
 refine z0n 5 (some 9) (v:=?_) rfl rfl (by kernel_rfl) (by kernel_rfl) (by kernel_rfl) (fun _ _ _ h=>h) (Or.inl ⟨by rfl,?_⟩) True.intro ?_
 rotate_left
 ·intro w hSw
  go_simp
  try with_reducible rfl
 simp only[Act.put,List.setIfInBounds_toArray,List.set_cons_zero,List.set_cons_succ]
 refine z0n 7 (some 10) (v:=?_) rfl rfl (by kernel_rfl) (by kernel_rfl) (by kernel_rfl) (fun _ _ _ h=>h) (Or.inl ⟨by rfl,?_⟩) True.intro ?_
 rotate_left
 ·intro w hSw
  go_simp
  try with_reducible rfl
 simp only[Act.put,List.setIfInBounds_toArray,List.set_cons_zero,List.set_cons_succ]
 refine z0n 9 (some 11) (v:=?_) rfl rfl (by kernel_rfl) (by kernel_rfl) (by kernel_rfl) (fun _ _ _ h=>h) (Or.inl ⟨by rfl,?_⟩) True.intro ?_
 rotate_left
 ·intro w hSw
  go_simp
  try with_reducible rfl
 simp only[Act.put,List.setIfInBounds_toArray,List.set_cons_zero,List.set_cons_succ]
 refine turn_at 0 (some 6) (v:=.map (some w.heap.size)) (w':=w.drew.alloc (.map #[] 0)) rfl rfl (by rfl) (by kernel_rfl) (by kernel_rfl) True.intro ?_
 simp only[Act.put,List.setIfInBounds_toArray,List.set_cons_zero,List.set_cons_succ]
 refine z7v [2,4,6,8,10] #[true,true,true,true,true,true,true,true,true,true,true,false,false] (CostSt T2 w w.heap.size) _ 2 ?_ ?_ 5 _ _ (by kernel_rfl) ?_ True.intro
 ·intro i hi
  simp only[List.mem_cons,List.not_mem_nil,or_false] at hi
  rcases hi with rfl | rfl | rfl | rfl | rfl
  ·refine⟨_,rfl,by rfl,rfl,fun n listed w hI _=>?_⟩
   obtain⟨w',e1,e2⟩:=z3c T2_in T2_ne T2_one hI (q:=(2,1,2,1)) (by decide)
   unfold shV at e1
   exact⟨w',by simp[execOp,go_sem,e1],True.intro,e2⟩
  ·refine⟨_,rfl,by rfl,rfl,fun n listed w hI _=>?_⟩
   obtain⟨w',e1,e2⟩:=z3c T2_in T2_ne T2_one hI (q:=(4,2,2,3)) (by decide)
   unfold shV at e1
   exact⟨w',by simp[execOp,go_sem,e1],True.intro,e2⟩
  ·refine⟨_,rfl,by rfl,rfl,fun n listed w hI _=>?_⟩
   obtain⟨w',e1,e2⟩:=z3c T2_in T2_ne T2_one hI (q:=(6,3,2,20)) (by decide)
   unfold shV at e1
   exact⟨w',by simp[execOp,go_sem,e1],True.intro,e2⟩
  ·refine⟨_,rfl,by rfl,rfl,fun n listed w hI _=>?_⟩
   obtain⟨w',e1,e2⟩:=z3c T2_in T2_ne T2_one hI (q:=(8,7,2,2)) (by decide)
   unfold shV at e1
   exact⟨w',by simp[execOp,go_sem,e1],True.intro,e2⟩
  ·refine⟨_,rfl,by rfl,rfl,fun n listed w hI _=>?_⟩
   obtain⟨w',e1,e2⟩:=z3c T2_in T2_ne T2_one hI (q:=(10,9,2,1)) (by decide)
   unfold shV at e1
   exact⟨w',by simp[execOp,go_sem,e1],True.intro,e2⟩
 ·intro w1 hI _
  refine z0n 11 (some 12) (v:=?_) rfl rfl (by kernel_rfl) (by kernel_rfl) (by kernel_rfl) (fun _ _ _ h=>h) (Or.inl ⟨by rfl,?_⟩) True.intro ?_
  rotate_left
  ·intro w hSw
   go_simp
   try with_reducible rfl
  simp only[Act.put,List.setIfInBounds_toArray,List.set_cons_zero,List.set_cons_succ]
  refine z0n 12 (some 2) (v:=?_) rfl rfl (by kernel_rfl) (by kernel_rfl) (by kernel_rfl) (fun _ _ _ h=>h) (Or.inl ⟨by rfl,?_⟩) True.intro ?_
  rotate_left
  ·intro w hSw
   go_simp
   try with_reducible rfl
  simp only[Act.put,List.setIfInBounds_toArray,List.set_cons_zero,List.set_cons_succ]
  refine wpAnyH_done (by kernel_rfl) ?_ _
  have HI:Hid _:=hI
  clear hI
  refine NoPanic.normal ?_
  go_wp2
  go_ret
  obtain⟨⟨D,k,_,h1,h2⟩,h3,h4⟩:=HI.out
  exact⟨_,rfl,Nat.le_refl _,⟨D,k,h1,fun q hq=>h2 q hq (by revert q;decide)⟩,h3⟩
 ·exact⟨⟨.map [],0,by decide,World.ownsMap_made w.drew Tryz.prog 91 _,fun q hq h=>absurd h (by revert q;decide)⟩,(Below.refl _ _).drew.alloc (Nat.le_refl _) _,Nat.le_refl _⟩
theorem ccosts3 (w:World):Calls Tryz.prog 66 #[.int .i64 3] w fun e w'=>∃ g,e=.returned (.map (some g))∧w.heap.size≤g∧CostMap T3 w' g∧Below w.heap.size w w':=by
 go_enter Tryz.func66,Tryz.ntmps66
 go_wp2_with fail
 refine wp_region_noPanic ?_
 refine wp_region_held_drew (S:=fun _=>True) (by kernel_rfl) True.intro (fun hHeld=>?_)
 refine z0n 1 (some 16) (v:=?_) rfl rfl (by kernel_rfl) (by kernel_rfl) (by kernel_rfl) (fun _ _ _ h=>h) (Or.inl ⟨by rfl,?_⟩) True.intro ?_
 rotate_left
 ·intro w hSw
  go_simp
  try with_reducible rfl
 simp only[Act.put,List.setIfInBounds_toArray,List.set_cons_zero,List.set_cons_succ]
 refine z0n 3 (some 17) (v:=?_) rfl rfl (by kernel_rfl) (by kernel_rfl) (by kernel_rfl) (fun _ _ _ h=>h) (Or.inl ⟨by rfl,?_⟩) True.intro ?_
 rotate_left
 ·intro w hSw
  go_simp
  try with_reducible rfl
 simp only[Act.put,List.setIfInBounds_toArray,List.set_cons_zero,List.set_cons_succ]
 refine z0n 5 (some 18) (v:=?_) rfl rfl (by kernel_rfl) (by kernel_rfl) (by kernel_rfl) (fun _ _ _ h=>h) (Or.inl ⟨by rfl,?_⟩) True.intro ?_
 rotate_left
 ·intro w hSw
  go_simp
  try with_reducible rfl
 simp only[Act.put,List.setIfInBounds_toArray,List.set_cons_zero,List.set_cons_succ]
 refine z0n 7 (some 19) (v:=?_) rfl rfl (by kernel_rfl) (by kernel_rfl) (by kernel_rfl) (fun _ _ _ h=>h) (Or.inl ⟨by rfl,?_⟩) True.intro ?_
 rotate_left
 ·intro w hSw
  go_simp
  try with_reducible rfl
 simp only[Act.put,List.setIfInBounds_toArray,List.set_cons_zero,List.set_cons_succ]
 refine z0n 9 (some 20) (v:=?_) rfl rfl (by kernel_rfl) (by kernel_rfl) (by kernel_rfl) (fun _ _ _ h=>h) (Or.inl ⟨by rfl,?_⟩) True.intro ?_
 rotate_left
 ·intro w hSw
  go_simp
  try with_reducible rfl
 simp only[Act.put,List.setIfInBounds_toArray,List.set_cons_zero,List.set_cons_succ]
 refine turn_at 0 (some 15) (v:=.map (some w.heap.size)) (w':=w.drew.alloc (.map #[] 0)) rfl rfl (by rfl) (by kernel_rfl) (by kernel_rfl) True.intro ?_
 simp only[Act.put,List.setIfInBounds_toArray,List.set_cons_zero,List.set_cons_succ]
 refine z7v [2,4,6,8,10] #[true,true,true,true,true,true,true,true,true,true,true,false,false] (CostSt T3 w w.heap.size) _ 2 ?_ ?_ 5 _ _ (by kernel_rfl) ?_ True.intro
 ·intro i hi
  simp only[List.mem_cons,List.not_mem_nil,or_false] at hi
  rcases hi with rfl | rfl | rfl | rfl | rfl
  ·refine⟨_,rfl,by rfl,rfl,fun n listed w hI _=>?_⟩
   obtain⟨w',e1,e2⟩:=z3c T3_in T3_ne T3_one hI (q:=(2,1,3,1)) (by decide)
   unfold shV at e1
   exact⟨w',by simp[execOp,go_sem,e1],True.intro,e2⟩
  ·refine⟨_,rfl,by rfl,rfl,fun n listed w hI _=>?_⟩
   obtain⟨w',e1,e2⟩:=z3c T3_in T3_ne T3_one hI (q:=(4,4,3,1)) (by decide)
   unfold shV at e1
   exact⟨w',by simp[execOp,go_sem,e1],True.intro,e2⟩
  ·refine⟨_,rfl,by rfl,rfl,fun n listed w hI _=>?_⟩
   obtain⟨w',e1,e2⟩:=z3c T3_in T3_ne T3_one hI (q:=(6,5,3,2)) (by decide)
   unfold shV at e1
   exact⟨w',by simp[execOp,go_sem,e1],True.intro,e2⟩
  ·refine⟨_,rfl,by rfl,rfl,fun n listed w hI _=>?_⟩
   obtain⟨w',e1,e2⟩:=z3c T3_in T3_ne T3_one hI (q:=(8,6,3,2)) (by decide)
   unfold shV at e1
   exact⟨w',by simp[execOp,go_sem,e1],True.intro,e2⟩
  ·refine⟨_,rfl,by rfl,rfl,fun n listed w hI _=>?_⟩
   obtain⟨w',e1,e2⟩:=z3c T3_in T3_ne T3_one hI (q:=(10,8,3,2)) (by decide)
   unfold shV at e1
   exact⟨w',by simp[execOp,go_sem,e1],True.intro,e2⟩
 ·intro w1 hI _
  refine z0n 11 (some 21) (v:=?_) rfl rfl (by kernel_rfl) (by kernel_rfl) (by kernel_rfl) (fun _ _ _ h=>h) (Or.inl ⟨by rfl,?_⟩) True.intro ?_
  rotate_left
  ·intro w hSw
   go_simp
   try with_reducible rfl
  simp only[Act.put,List.setIfInBounds_toArray,List.set_cons_zero,List.set_cons_succ]
  refine z0n 12 (some 2) (v:=?_) rfl rfl (by kernel_rfl) (by kernel_rfl) (by kernel_rfl) (fun _ _ _ h=>h) (Or.inl ⟨by rfl,?_⟩) True.intro ?_
  rotate_left
  ·intro w hSw
   go_simp
   try with_reducible rfl
  simp only[Act.put,List.setIfInBounds_toArray,List.set_cons_zero,List.set_cons_succ]
  refine wpAnyH_done (by kernel_rfl) ?_ _
  have HI:Hid _:=hI
  clear hI
  refine NoPanic.normal ?_
  go_wp2
  go_ret
  obtain⟨⟨D,k,_,h1,h2⟩,h3,h4⟩:=HI.out
  exact⟨_,rfl,Nat.le_refl _,⟨D,k,h1,fun q hq=>h2 q hq (by revert q;decide)⟩,h3⟩
 ·exact⟨⟨.map [],0,by decide,World.ownsMap_made w.drew Tryz.prog 91 _,fun q hq h=>absurd h (by revert q;decide)⟩,(Below.refl _ _).drew.alloc (Nat.le_refl _) _,Nat.le_refl _⟩
theorem ccosts1 (w:World):Calls Tryz.prog 66 #[.int .i64 1] w fun e w'=>∃ g,e=.returned (.map (some g))∧w.heap.size≤g∧CostMap T1 w' g∧Below w.heap.size w w':=by
 go_enter Tryz.func66,Tryz.ntmps66
 go_wp2_with fail
 refine wp_region_noPanic ?_
 refine wp_region_held_drew (S:=fun _=>True) (by kernel_rfl) True.intro (fun hHeld=>?_)
 refine z0n 1 (some 23) (v:=?_) rfl rfl (by kernel_rfl) (by kernel_rfl) (by kernel_rfl) (fun _ _ _ h=>h) (Or.inl ⟨by rfl,?_⟩) True.intro ?_
 rotate_left
 ·intro w hSw
  go_simp
  try with_reducible rfl
 simp only[Act.put,List.setIfInBounds_toArray,List.set_cons_zero,List.set_cons_succ]
 refine z0n 3 (some 24) (v:=?_) rfl rfl (by kernel_rfl) (by kernel_rfl) (by kernel_rfl) (fun _ _ _ h=>h) (Or.inl ⟨by rfl,?_⟩) True.intro ?_
 rotate_left
 ·intro w hSw
  go_simp
  try with_reducible rfl
 simp only[Act.put,List.setIfInBounds_toArray,List.set_cons_zero,List.set_cons_succ]
 refine z0n 5 (some 25) (v:=?_) rfl rfl (by kernel_rfl) (by kernel_rfl) (by kernel_rfl) (fun _ _ _ h=>h) (Or.inl ⟨by rfl,?_⟩) True.intro ?_
 rotate_left
 ·intro w hSw
  go_simp
  try with_reducible rfl
 simp only[Act.put,List.setIfInBounds_toArray,List.set_cons_zero,List.set_cons_succ]
 refine z0n 7 (some 26) (v:=?_) rfl rfl (by kernel_rfl) (by kernel_rfl) (by kernel_rfl) (fun _ _ _ h=>h) (Or.inl ⟨by rfl,?_⟩) True.intro ?_
 rotate_left
 ·intro w hSw
  go_simp
  try with_reducible rfl
 simp only[Act.put,List.setIfInBounds_toArray,List.set_cons_zero,List.set_cons_succ]
 refine turn_at 0 (some 22) (v:=.map (some w.heap.size)) (w':=w.drew.alloc (.map #[] 0)) rfl rfl (by rfl) (by kernel_rfl) (by kernel_rfl) True.intro ?_
 simp only[Act.put,List.setIfInBounds_toArray,List.set_cons_zero,List.set_cons_succ]
 refine z7v [2,4,6,8] #[true,true,true,true,true,true,true,true,true,false,false] (CostSt T1 w w.heap.size) _ 2 ?_ ?_ 4 _ _ (by kernel_rfl) ?_ True.intro
 ·intro i hi
  simp only[List.mem_cons,List.not_mem_nil,or_false] at hi
  rcases hi with rfl | rfl | rfl | rfl
  ·refine⟨_,rfl,by rfl,rfl,fun n listed w hI _=>?_⟩
   obtain⟨w',e1,e2⟩:=z3c T1_in T1_ne T1_one hI (q:=(2,10,1,4)) (by decide)
   unfold shV at e1
   exact⟨w',by simp[execOp,go_sem,e1],True.intro,e2⟩
  ·refine⟨_,rfl,by rfl,rfl,fun n listed w hI _=>?_⟩
   obtain⟨w',e1,e2⟩:=z3c T1_in T1_ne T1_one hI (q:=(4,11,1,1)) (by decide)
   unfold shV at e1
   exact⟨w',by simp[execOp,go_sem,e1],True.intro,e2⟩
  ·refine⟨_,rfl,by rfl,rfl,fun n listed w hI _=>?_⟩
   obtain⟨w',e1,e2⟩:=z3c T1_in T1_ne T1_one hI (q:=(6,12,1,1)) (by decide)
   unfold shV at e1
   exact⟨w',by simp[execOp,go_sem,e1],True.intro,e2⟩
  ·refine⟨_,rfl,by rfl,rfl,fun n listed w hI _=>?_⟩
   obtain⟨w',e1,e2⟩:=z3c T1_in T1_ne T1_one hI (q:=(8,13,1,4)) (by decide)
   unfold shV at e1
   exact⟨w',by simp[execOp,go_sem,e1],True.intro,e2⟩
 ·intro w1 hI _
  refine z0n 9 (some 27) (v:=?_) rfl rfl (by kernel_rfl) (by kernel_rfl) (by kernel_rfl) (fun _ _ _ h=>h) (Or.inl ⟨by rfl,?_⟩) True.intro ?_
  rotate_left
  ·intro w hSw
   go_simp
   try with_reducible rfl
  simp only[Act.put,List.setIfInBounds_toArray,List.set_cons_zero,List.set_cons_succ]
  refine z0n 10 (some 2) (v:=?_) rfl rfl (by kernel_rfl) (by kernel_rfl) (by kernel_rfl) (fun _ _ _ h=>h) (Or.inl ⟨by rfl,?_⟩) True.intro ?_
  rotate_left
  ·intro w hSw
   go_simp
   try with_reducible rfl
  simp only[Act.put,List.setIfInBounds_toArray,List.set_cons_zero,List.set_cons_succ]
  refine wpAnyH_done (by kernel_rfl) ?_ _
  have HI:Hid _:=hI
  clear hI
  refine NoPanic.normal ?_
  go_wp2
  go_ret
  obtain⟨⟨D,k,_,h1,h2⟩,h3,h4⟩:=HI.out
  exact⟨_,rfl,Nat.le_refl _,⟨D,k,h1,fun q hq=>h2 q hq (by revert q;decide)⟩,h3⟩
 ·exact⟨⟨.map [],0,by decide,World.ownsMap_made w.drew Tryz.prog 91 _,fun q hq h=>absurd h (by revert q;decide)⟩,(Below.refl _ _).drew.alloc (Nat.le_refl _) _,Nat.le_refl _⟩
end
section
open Go.RowKit Go.Maps
theorem cost_look' {w:World} {g n:Nat} {D:DataW Unit} (hown:w.ownsMap Tryz.prog 91 (plainElem Tryz.prog 3) g n D) {k f c:Int} (hq:(k,f,c)∈z4h) (hD:∀ z,D.atKey (kS k f) z=.lit (.int .i64 c)) :
  (Instr.lookup 117 (.map (some g)) (.agg #[.int .i64 k,.int .i64 f]) false).run Tryz.prog w=.ok (.int .i64 c) w:=by
 have:=cost_look hown hq hD
 unfold shV at this
 exact this
theorem z3u (T:List (Nat × Int × Int × Int)) (k f c:Int) (hq:(k,f,c)∈z4h) (i:Nat) (hT:(i,k,f,c)∈T) (hC:∀ w,Calls Tryz.prog 66 #[.int .i64 f] w fun e w'=>∃ g,e=.returned (.map (some g))∧w.heap.size≤g∧CostMap T w' g∧Below w.heap.size w w') (w:World) :
  Calls Tryz.prog 42 #[.agg #[.int .i64 k,.int .i64 f]] w fun e w'=>e=.returned (.int .i64 c)∧Below w.heap.size w w':=by
 have CC:Hid _:=hC
 have HL:Hid (∀ w g,CostMap T w g→(Instr.lookup 117 (.map (some g)) (.agg #[.int .i64 k,.int .i64 f]) false).run Tryz.prog w=.ok (.int .i64 c) w):=fun w g hm=>by
  obtain⟨D,n,h1,h2⟩:=hm.own
  exact cost_look' h1 hq (fun z=>h2 (i,k,f,c) hT z)
 clear hC hq hT
 go_enter Tryz.func42,Tryz.ntmps42
 go_wp2_with fail
 have I1:=z0g w (.cells #[.int .i64 k,.int .i64 f] 91)
 have B1:Hid (Below w.heap.size w (w.alloc (.cells #[.int .i64 k,.int .i64 f] 91))):=(Below.refl _ _).alloc (Nat.le_refl _) _
 generalize w.alloc (.cells #[.int .i64 k,.int .i64 f] 91)=V at *
 generalize hbk:w.heap.size=b at *
 refine wp_region_noPanic ?_
 refine wp_region_held_drew (S:=fun w'=>w'.heap[b]?=some (.cells #[.int .i64 k,.int .i64 f] 91)) (by kernel_rfl) I1 (fun hHeld=>?_)
 refine z0n 0 (some 3) (v:=?_) rfl rfl (by kernel_rfl) (by kernel_rfl) (by kernel_rfl) (fun _ _ _ h=>h) (Or.inl ⟨by rfl,?_⟩) (by assumption) ?_
 rotate_left
 ·intro w hSw
  obtain⟨cc,_,_⟩:=z0a hSw
  have c0:=cc 0 (.int .i64 k) rfl
  have c1:=cc 1 (.int .i64 f) rfl
  clear hSw cc
  go_simp
  try with_reducible rfl
 simp only[Act.put,List.setIfInBounds_toArray,List.set_cons_zero,List.set_cons_succ]
 refine z0n 1 (some 4) (v:=?_) rfl rfl (by kernel_rfl) (by kernel_rfl) (by kernel_rfl) (fun _ _ _ h=>h) (Or.inl ⟨by rfl,?_⟩) (by assumption) ?_
 rotate_left
 ·intro w hSw
  obtain⟨cc,_,_⟩:=z0a hSw
  have c0:=cc 0 (.int .i64 k) rfl
  have c1:=cc 1 (.int .i64 f) rfl
  clear hSw cc
  go_simp
  try with_reducible rfl
 simp only[Act.put,List.setIfInBounds_toArray,List.set_cons_zero,List.set_cons_succ]
 refine z0n 3 (some 6) (v:=?_) rfl rfl (by kernel_rfl) (by kernel_rfl) (by kernel_rfl) (fun _ _ _ h=>h) (Or.inl ⟨by rfl,?_⟩) (by assumption) ?_
 rotate_left
 ·intro w hSw
  obtain⟨cc,_,_⟩:=z0a hSw
  have c0:=cc 0 (.int .i64 k) rfl
  have c1:=cc 1 (.int .i64 f) rfl
  clear hSw cc
  go_simp
  try with_reducible rfl
 simp only[Act.put,List.setIfInBounds_toArray,List.set_cons_zero,List.set_cons_succ]
 refine z5q 2 (some 5) 66 #[.int .i64 f] rfl rfl (by rfl) (by kernel_rfl) (by kernel_rfl) (Calls.mono (CC.out _) ?_)
 rintro e w1 ⟨g,rfl,_,hm,hb⟩
 refine⟨_,rfl,z0f hHeld hb,fun hHeld=>?_⟩
 simp only[Act.put,List.setIfInBounds_toArray,List.set_cons_zero,List.set_cons_succ]
 have hl:=HL.out w1 g hm
 refine turn_at 4 (some 7) (v:=.int .i64 c) (w':=w1) rfl rfl (by rfl) (by kernel_rfl) (by simp[execOp,go_sem,hl]) hHeld ?_
 simp only[Act.put,List.setIfInBounds_toArray,List.set_cons_zero,List.set_cons_succ]
 refine z0n 5 (some 2) (v:=?_) rfl rfl (by kernel_rfl) (by kernel_rfl) (by kernel_rfl) (fun _ _ _ h=>h) (Or.inl ⟨by rfl,?_⟩) (by assumption) ?_
 rotate_left
 ·intro w hSw
  obtain⟨cc,_,_⟩:=z0a hSw
  have c0:=cc 0 (.int .i64 k) rfl
  have c1:=cc 1 (.int .i64 f) rfl
  clear hSw cc
  go_simp
  try with_reducible rfl
 simp only[Act.put,List.setIfInBounds_toArray,List.set_cons_zero,List.set_cons_succ]
 refine wpAnyH_done (by kernel_rfl) ?_ _
 refine NoPanic.normal ?_
 have B2:Hid (Below w.heap.size w w1):=z0e (by rw[hbk];exact B1.out.trans (Below.refl _ _).drew) hb
 clear hHeld hl hm hb B1 CC HL
 go_wp2
 go_ret
 exact⟨rfl,B2.out⟩
theorem ccost {k f c:Int} (hq:(k,f,c)∈z4h) (w:World):Calls Tryz.prog 42 #[.agg #[.int .i64 k,.int .i64 f]] w fun e w'=>e=.returned (.int .i64 c)∧Below w.heap.size w w':=by
 simp only[z4h,List.mem_cons,List.not_mem_nil,or_false,Prod.mk.injEq] at hq
 rcases hq with h | h | h | h | h | h | h | h | h | h | h | h | h | h <;> obtain⟨rfl,rfl,rfl⟩:=h
 ·exact z3u T2 1 2 1 (by decide) 2 (by decide) ccosts2 w
 ·exact z3u T2 2 2 3 (by decide) 4 (by decide) ccosts2 w
 ·exact z3u T2 3 2 20 (by decide) 6 (by decide) ccosts2 w
 ·exact z3u T2 7 2 2 (by decide) 8 (by decide) ccosts2 w
 ·exact z3u T2 9 2 1 (by decide) 10 (by decide) ccosts2 w
 ·exact z3u T3 1 3 1 (by decide) 2 (by decide) ccosts3 w
 ·exact z3u T3 4 3 1 (by decide) 4 (by decide) ccosts3 w
 ·exact z3u T3 5 3 2 (by decide) 6 (by decide) ccosts3 w
 ·exact z3u T3 6 3 2 (by decide) 8 (by decide) ccosts3 w
 ·exact z3u T3 8 3 2 (by decide) 10 (by decide) ccosts3 w
 ·exact z3u T1 10 1 4 (by decide) 2 (by decide) ccosts1 w
 ·exact z3u T1 11 1 1 (by decide) 4 (by decide) ccosts1 w
 ·exact z3u T1 12 1 1 (by decide) 6 (by decide) ccosts1 w
 ·exact z3u T1 13 1 4 (by decide) 8 (by decide) ccosts1 w
end
theorem cbit (x n:Int) (hx:U32 x) (h0:0≤n) (h1:n<31) (w:World):Calls Tryz.prog 39 #[.int .u32 x,.int .i64 n] w fun e w'=>e=.returned (.bool (z0j x n 1==1))∧w'=w:=by
 have C1:Hid _:=nbits x n 1 hx h0 (by omega) (by decide) (by omega)
 clear hx h0 h1
 generalize z0j x n 1=y at *
 go_enter Tryz.func39,Tryz.ntmps39
 go_wp2_with fail
 refine (C1.out _).mono ?_
 rintro e wq ⟨rfl,hwq⟩
 rw[hwq]
 clear hwq wq
 go_wp2
 go_ret
 exact⟨rfl,rfl⟩
theorem bit_3 {x:Int} (hx:U32 x):(z0j x 3 1==1)=(x/8%2==1):=by
 obtain⟨h0,h1⟩:=hx
 have:z0j x 3 1=x/8%2:=z0t ⟨h0,h1⟩ 3 1 (by decide) (by decide) (by decide)
 rw[this]
theorem bit_7 {x:Int} (hx:U32 x):(z0j x 7 1==1)=(x/128%2==1):=by
 obtain⟨h0,h1⟩:=hx
 have:z0j x 7 1=x/128%2:=z0t ⟨h0,h1⟩ 7 1 (by decide) (by decide) (by decide)
 rw[this]
theorem ldue {w:World} {c:Nat} {s:CS} (h:LAt w c s) :
  Calls Tryz.prog 40 #[.pointer (some ⟨c,0,none⟩)] w fun e w'=>e=.returned (.bool (dueV s))∧Below w.heap.size w w':=by
 have c58:=h.cell 58 (by decide)
 have c59:=h.cell 59 (by decide)
 have c60:=h.cell 60 (by decide)
 have e58:z1a s 58=.int .i64 s.t:=rfl
 have e59:z1a s 59=.bool s.set:=rfl
 have e60:z1a s 60=.int .i64 s.cmp:=rfl
 rw[e58] at c58
 rw[e59] at c59
 rw[e60] at c60
 clear h e58 e59 e60
 unfold dueV
 generalize s.t=t at *
 generalize s.cmp=k at *
 generalize s.set=b at *
 cases b
 all_goals
  go_enter Tryz.func40,Tryz.ntmps40
  go_wp2_with fail
  go_region
  go_wp2
  go_ret
  exact⟨rfl,(Below.refl _ _).drew⟩
def z6c (h:Int):Int:=if h=0 then 4 else if h=1 then 6 else 0
theorem ccauseOf (h:Int) (hh:h=0∨h=1∨h=2) (w:World):Calls Tryz.prog 111 #[.int .i64 h] w fun e w'=>e=.returned (.int .u32 (z6c h))∧w'=w:=by
 rcases hh with rfl | rfl | rfl
 all_goals
  go_enter Tryz.func111,Tryz.ntmps111
  go_wp2
  go_ret
  exact⟨rfl,rfl⟩
structure z9f (w:World) (g:Nat) (c v:Int):Prop where
 is:w.heap[g]?=some (.cells #[.int .u32 c,.int .u32 v] 68)
theorem z9f.below {w w':World} {g:Nat} {c v:Int} (h:z9f w g c v) (hb:Below w.heap.size w w'):z9f w' g c v:=⟨z0f h.is hb⟩
theorem cunreached (p h:Int) (hh:h=0∨h=1∨h=2) (w:World):Calls Tryz.prog 97 #[.int .u32 p,.int .i64 h] w fun e w'=>∃ g,e=.returned (.pointer (some ⟨g,0,none⟩))∧w.heap.size≤g∧z9f w' g (z6c h+1) p∧Below w.heap.size w w':=by
 have C1:Hid _:=ccauseOf h hh
 have hv:(z6c h+1)%4294967296=z6c h+1:=by rcases hh with rfl | rfl | rfl <;> rfl
 generalize z6c h=k at *
 clear hh
 go_enter Tryz.func97,Tryz.ntmps97
 go_wp2_with fail
 refine (C1.out _).mono ?_
 rintro e wq ⟨rfl,hwq⟩
 rw[hwq]
 clear hwq wq
 go_wp2
 go_ret
 exact⟨_,rfl,Nat.le_refl _,⟨by rw[← hv];exact z0g _ _⟩,(Below.refl _ _).alloc (Nat.le_refl _) _⟩
theorem lcomes {w:World} {c:Nat} {s:CS} (h:LAt w c s) (hf:∀ i,U32 (s.f i)) :
  Calls Tryz.prog 24 #[.pointer (some ⟨c,0,none⟩)] w fun e w'=>e=.returned (.bool (z5y s))∧Below w.heap.size w w':=by
 have CD:Hid _:=ldue h
 have C3:Hid _:=cbit (s.f 34) 3 (hf 34) (by decide) (by decide)
 have C7:Hid _:=cbit (s.f 35) 7 (hf 35) (by decide) (by decide)
 have HT:Hid (z5y s=(dueV s&&(z0j (s.f 35) 7 1==1)&&(s.u||(z0j (s.f 34) 3 1==1)))):=by rw[bit_3 (hf 34),bit_7 (hf 35)];rfl
 have c34:=h.cell 34 (by decide)
 have c35:=h.cell 35 (by decide)
 have c36:=h.cell 36 (by decide)
 have e34:z1a s 34=.bool s.u:=rfl
 have e35:z1a s 35=.int .u32 (s.f 34):=rfl
 have e36:z1a s 36=.int .u32 (s.f 35):=rfl
 rw[e34] at c34
 rw[e35] at c35
 rw[e36] at c36
 have HC:Hid _:=h
 rw[HT.out]
 clear h hf e34 e35 e36 HT
 generalize dueV s=d at *
 generalize (z0j (s.f 35) 7 1==1)=x7 at *
 generalize (z0j (s.f 34) 3 1==1)=x3 at *
 generalize s.f 34=f34 at *
 generalize s.f 35=f35 at *
 generalize hu:s.u=u at *
 cases u <;> cases d <;> cases x7
 all_goals
  go_enter Tryz.func24,Tryz.ntmps24
  go_wp2_with (first | (go_at_call 39;refine (C3.out _).mono ?_;rintro e wq ⟨rfl,hwq⟩;rw[hwq];clear hwq wq))
  refine Calls.mono CD.out ?_
  rintro e w1 ⟨rfl,b1⟩
  rw[← b1.cell (p:=⟨c,36,none⟩) HC.out.lt] at c36
  have B1:Hid _:=b1
  clear b1
  go_wp2_with (first | (go_at_call 39;refine (C7.out _).mono ?_;rintro e wq ⟨rfl,hwq⟩;rw[hwq];clear hwq wq))
  go_ret
  exact⟨by simp,B1.out⟩
structure BarRes (r:Option Int) (p:Int) (w:World) (e:Ending) (w':World):Prop where
 ok:r=none→e=.returned (.pointer none)
 no:∀ k,r=some k→∃ g,e=.returned (.pointer (some ⟨g,0,none⟩))∧w.heap.size≤g∧z9f w' g k p
 below:Below w.heap.size w w'
theorem guardL_range {w:World} {c:Nat} {s:CS} (h:LAt w c s):w.rangeAt c 42 (z2n (gw s.f)).toList:=by
 have hl:(z2n (gw s.f)).toList.length=16:=by rw[Array.length_toList,z1r]
 refine z7a h.is 42 _ (by rw[hl];decide) fun j v hv=>?_
 have hj:j<16:=by have:=(List.getElem?_eq_some_iff.1 hv).1;rwa [hl] at this
 rw[Array.getElem?_toList,z8w _ _ hj,Option.some.injEq] at hv
 rw[← hv]
 unfold z1a
 rw[if_neg (by omega),if_pos (by omega)]
 unfold rv gw
 rw[if_neg (by omega),show 42+j-1=41+j by omega]
theorem lbarred_odd {w:World} {c:Nat} (p n h:Int) (hp:U32 p) (hn:n=1∨n=2∨n=4) (hh:h=0∨h=1∨h=2) (ho:p%n≠0) :
  Calls Tryz.prog 96 #[.pointer (some ⟨c,0,none⟩),.int .u32 p,.int .i64 n,.int .i64 h] w fun e w'=>∃ g,e=.returned (.pointer (some ⟨g,0,none⟩))∧w.heap.size≤g∧z9f w' g (z6c h) p∧Below w.heap.size w w':=by
 have C1:Hid _:=ccauseOf h hh
 generalize z6c h=k at *
 obtain⟨p0,p1⟩:=hp
 rcases hn with rfl | rfl | rfl
 ·omega
 all_goals
  have hb:=beq_eq_false_iff_ne.2 ho
  clear ho hh
  go_enter Tryz.func96,Tryz.ntmps96
  go_wp2_with fail
  refine (C1.out _).mono ?_
  rintro e wq ⟨rfl,hwq⟩
  rw[hwq]
  clear hwq wq
  go_wp2
  go_ret
  exact⟨_,rfl,Nat.le_refl _,⟨z0g _ _⟩,(Below.refl _ _).alloc (Nat.le_refl _) _⟩
theorem lbarred_in {w:World} {c:Nat} {s:CS} (hc:LAt w c s) (p n h:Int) (hp:U32 p) (hn:n=1∨n=2∨n=4) (he:p%n=0) (hu:s.u=false) :
  Calls Tryz.prog 96 #[.pointer (some ⟨c,0,none⟩),.int .u32 p,.int .i64 n,.int .i64 h] w fun e w'=>e=.returned (.pointer none)∧Below w.heap.size w w':=by
 have c34:=hc.cell 34 (by decide)
 have e34:z1a s 34=.bool s.u:=rfl
 rw[e34,hu] at c34
 obtain⟨p0,p1⟩:=hp
 clear hu hc e34
 rcases hn with rfl | rfl | rfl
 all_goals
  have hb:=beq_iff_eq.2 he
  clear he
  go_enter Tryz.func96,Tryz.ntmps96
  go_wp2
  go_ret
  exact⟨rfl,Below.refl _ _⟩
theorem lbarred_user {w:World} {c:Nat} {s:CS} (hc:LAt w c s) (hf:∀ i,U32 (s.f i)) (p n h:Int) (hp:U32 p) (hn:n=1∨n=2∨n=4) (hh:h=0∨h=1∨h=2) (he:p%n=0) (hu:s.u=true) (a:Bool) (ha:z2m (ofV (gw s.f)) p n h=a) :
  Calls Tryz.prog 96 #[.pointer (some ⟨c,0,none⟩),.int .u32 p,.int .i64 n,.int .i64 h] w fun e w'=>BarRes (if a then none else some (z6c h+1)) p w e w':=by
 have c34:=hc.cell 34 (by decide)
 have e34:z1a s 34=.bool s.u:=rfl
 rw[e34,hu] at c34
 have R1:Hid _:=guardL_range hc
 have hU:U32 n:=by rcases hn with rfl | rfl | rfl <;> exact⟨by decide,by decide⟩
 have CO:Hid _:=gOf (gw s.f) (fun i=>hf (41+i))
 have CA:Hid (∀ (W:World) (g off cap:Nat),Regs W (some ⟨g,off,none⟩) g off (ofV (gw s.f))→Calls Tryz.prog 112 #[.slice (some ⟨g,off,none⟩) 8 cap,.int .u32 p,.int .u32 n,.int .i64 h] W fun e w'=>e=.returned (.bool a)∧Below W.heap.size W w'):=fun W g off cap hr=>by
  rw[← ha]
  exact gAllow hr (z8q fun i=>hf (41+i)) 8 cap (by simp[ofV]) (by decide) p n h hp hU
 have CU:Hid _:=cunreached p h hh
 obtain⟨p0,p1⟩:=hp
 clear hu hc e34 hf ha hU
 have HI:Hid ((Tryz.prog.info? 30).map (·.size)=some (z2n (gw s.f)).size):=by show _=_;rw[z1r];exact z4r
 generalize z2n (gw s.f)=L at *
 generalize ofV (gw s.f)=R at *
 generalize z6c h+1=k at *
 rcases hn with rfl | rfl | rfl
 all_goals
  have hb:=beq_iff_eq.2 he
  clear he
  go_enter Tryz.func96,Tryz.ntmps96
  go_wp2_with (first | (refine z0w (by rfl) 30 (.tmp 28) rfl c 42 rfl L _ R1.out z7e rfl HI.out ?_))
  refine (CO.out _).mono ?_
  rintro e w1 ⟨g,off,cap,rfl,-,-,-,hr,b1⟩
  have HR:Hid _:=hr
  have B1:Hid _:=b1
  clear hr b1
  go_wp2_with fail
  refine (CA.out w1 g off cap HR.out).mono ?_
  rintro e w2 ⟨rfl,b2⟩
  have B2:Hid (Below w.heap.size w w2):=z0e B1.out b2
  clear b2 CA CO R1
  cases a
  ·go_wp2_with fail
   refine (CU.out _).mono ?_
   rintro e w3 ⟨g3,rfl,q1,q2,q3⟩
   have B3:Hid (Below w.heap.size w w3):=z0e B2.out q3
   have q4:w.heap.size≤g3:=Nat.le_trans B2.out.size q1
   have Q2:Hid _:=q2
   clear q1 q2 q3
   go_wp2
   go_ret
   exact⟨fun h=>(by cases h),fun k' hk=>(by cases hk;exact⟨_,rfl,q4,Q2.out⟩),B3.out⟩
  ·go_wp2
   go_ret
   exact⟨fun _=>rfl,fun k' hk=>(by cases hk),B2.out⟩
def barV (s:CS) (p n h:Int):Option Int:=if p%n≠0 then some (z6c h) else if z5m s p n h=false then some (z6c h+1) else none
theorem lbarred {w:World} {c:Nat} {s:CS} (hc:LAt w c s) (hf:∀ i,U32 (s.f i)) (p n h:Int) (hp:U32 p) (hn:n=1∨n=2∨n=4) (hh:h=0∨h=1∨h=2) :
  Calls Tryz.prog 96 #[.pointer (some ⟨c,0,none⟩),.int .u32 p,.int .i64 n,.int .i64 h] w fun e w'=>BarRes (barV s p n h) p w e w':=by
 unfold barV
 by_cases ho:p%n≠0
 ·rw[if_pos ho]
  refine (lbarred_odd p n h hp hn hh ho).mono ?_
  rintro e w' ⟨g,rfl,q1,q2,q3⟩
  exact⟨fun h=>(by cases h),fun k hk=>(by cases hk;exact⟨g,rfl,q1,q2⟩),q3⟩
 ·rw[if_neg ho]
  have he:p%n=0:=Classical.not_not.mp ho
  rcases (show s.u=false∨s.u=true by cases s.u <;> simp) with hu | hu
  ·have hl:z5m s p n h=true:=by unfold z5m;rw[hu];rfl
   rw[if_neg (by rw[hl];decide)]
   refine (lbarred_in hc p n h hp hn he hu).mono ?_
   rintro e w' ⟨rfl,q3⟩
   exact⟨fun _=>rfl,fun k hk=>(by cases hk),q3⟩
  ·have hl:z5m s p n h=z2m (ofV (gw s.f)) p n h:=by unfold z5m;rw[hu];rfl
   rw[hl]
   have:=lbarred_user hc hf p n h hp hn hh he hu _ rfl
   cases ha:z2m (ofV (gw s.f)) p n h
   ·rw[ha] at this
    rw[if_pos rfl]
    exact this
   ·rw[ha] at this
    rw[if_neg (by decide)]
    exact this
structure z0v (w:World) (c ma mb mc gl B:Nat) (s:CS) (l:List Int) (es:List Ev) (late:List Int):Prop where
 core:LAt w c s
 m:s.m=.pointer (some ⟨ma,0,none⟩)
 mem:Lies w ma mb mc l
 lates:LateL w gl s.la late s.came.toNat
 ev:w.ownsRow B 63 3 s.ev es.length (z5d es)
 na:ma≠c
 nb:mb≠c
 ng:0<late.length→gl≠c∧gl≠mb∧gl<B∧gl<w.heap.size
 cB:c<B
 aB:ma<B
 bB:mb<B
 hB:B≤w.heap.size
 x0:s.f 0=0
theorem z0v.below {w w':World} {c ma mb mc gl B:Nat} {s:CS} {l:List Int} {es:List Ev} {late:List Int} (h:z0v w c ma mb mc gl B s l es late) (hb:Below w.heap.size w w'):z0v w' c ma mb mc gl B s l es late:=
  ⟨h.core.below hb,h.m,h.mem.keep (hb.block _ h.mem.there.1) (hb.block _ h.mem.there.2),by
    obtain⟨sa,cap,off,e1,ec,e2⟩:=h.lates.is
    exact⟨sa,cap,off,e1,ec,fun hl=>by
      obtain⟨q1,q2,q3⟩:=e2 hl
      exact⟨q1,Nat.lt_of_lt_of_le q2 hb.size,fun i hi=>by rw[hb.cell (p:=⟨gl,off+i,none⟩) q2];exact q3 i hi⟩⟩,
   z2z h.ev (Chg.of (O:=fun _=>False) hb) (fun _ _ e=>e),h.na,h.nb,fun hl=>by
    obtain⟨q1,q2,q3,q4⟩:=h.ng hl
    exact⟨q1,q2,q3,Nat.lt_of_lt_of_le q4 hb.size⟩,h.cB,h.aB,h.bB,Nat.le_trans h.hB hb.size,h.x0⟩
theorem LateL.chg {w w':World} {gl:Nat} {v:Value} {late:List Int} {k:Nat} {O:Nat→Prop} (h:LateL w gl v late k) (hg:Chg O w w') (ho:0<late.length→¬O gl):LateL w' gl v late k:=by
 obtain⟨sa,cap,off,e1,ec,e2⟩:=h.is
 refine⟨sa,cap,off,e1,ec,fun hl=>?_⟩
 obtain⟨q1,q2,q3⟩:=e2 hl
 have hb:=hg.block gl q2 (ho (by omega))
 exact⟨q1,Nat.lt_of_lt_of_le q2 hg.size,fun i hi=>by rw[World.cell?_of_block hb];exact q3 i hi⟩
theorem z0v.own {w w' : World} {c ma mb mc gl B : Nat} {s s' : CS} {l : List Int} {es : List Ev} {late : List Int} (h : z0v w c ma mb mc gl B s l es late) (hc : LAt w' c s') (hg : Chg (· = c) w w') (hm : s'.m = s.m) (hl : s'.la = s.la) (hk : s'.came = s.came) (he : s'.ev = s.ev) (h0 : s'.f 0 = 0) : z0v w' c ma mb mc gl B s' l es late :=
  ⟨hc,hm.trans h.m,h.mem.keep (hg.block _ h.mem.there.1 h.na) (hg.block _ h.mem.there.2 h.nb),by rw[hl,hk];exact h.lates.chg hg (fun q=>(h.ng q).1),by rw[he];exact z2z h.ev hg (fun k hk e=>by have:=(z3k h.ev k hk).1;have:=h.cB;omega),h.na,h.nb,fun hq=>by
    obtain⟨q1,q2,q3,q4⟩:=h.ng hq
    exact⟨q1,q2,q3,Nat.lt_of_lt_of_le q4 hg.size⟩,h.cB,h.aB,h.bB,Nat.le_trans h.hB hg.size,h0⟩
structure TakeRes (r:Option Int) (x p:Int) (w:World) (e:Ending) (w':World):Prop where
 ok:r=none→e=.returned (.tuple #[.int .u32 x,.pointer none])
 no:∀ k,r=some k→∃ g,e=.returned (.tuple #[.int .u32 0,.pointer (some ⟨g,0,none⟩)])∧w.heap.size≤g∧z9f w' g k p
 below:Below w.heap.size w w'
def z5j (s:CS) (l:List Int) (p n h:Int):Option Int:=if p%n≠0 then some (z6c h) else if z5m s p n h=false then some (z6c h+1) else if askV l.length p n≠0 then some (z6c h+1) else none
theorem ltake {w:World} {c ma mb mc gl B:Nat} {s:CS} {l:List Int} {es:List Ev} {late:List Int} (h:z0v w c ma mb mc gl B s l es late) (hf:∀ i,U32 (s.f i)) (p n:Int) (sg:Bool) (how:Int) (hp:U32 p) (hn:n=1∨n=2∨n=4) (hh:how=0∨how=1∨how=2) :
  Calls Tryz.prog 67 #[.pointer (some ⟨c,0,none⟩),.int .u32 p,.int .i64 n,.bool sg,.int .i64 how] w fun e w'=>TakeRes (z5j s l p n how) (z2r l.length l p n sg) p w e w':=by
 have CB:Hid _:=lbarred h.core hf p n how hp hn hh
 have CU:Hid _:=cunreached p how hh
 have HC:Hid _:=h
 have HT:Hid (z5j s l p n how=match barV s p n how with | some k=>some k | none=>if askV l.length p n≠0 then some (z6c how+1) else none):=by
  show _=_
  unfold z5j barV
  by_cases h1:p%n≠0
  ·rw[if_pos h1,if_pos h1]
  ·rw[if_neg h1,if_neg h1]
   by_cases h2:z5m s p n how=false
   ·rw[if_pos h2,if_pos h2]
   ·rw[if_neg h2,if_neg h2]
 have HP:Hid _:=hp
 have hnil:∀ a:Option Addr,∀ w:World,(binOp .neq 92 (.pointer a) (.pointer none)).run Tryz.prog w=.ok (.bool a.isSome) w:=fun a w=>by cases a <;> kernel_rfl
 clear h hf hh hn hp
 cases hb:barV s p n how with
 | some k=>
  rw[hb] at CB HT
  go_enter Tryz.func67,Tryz.ntmps67
  go_wp2_with fail
  refine Calls.mono CB.out ?_
  intro e w1 q
  obtain⟨g,rfl,g1,g2⟩:=q.no k rfl
  have G2:Hid _:=g2
  have Q3:Hid _:=q.below
  clear q g2 CB
  go_wp2
  go_ret2
  rw[HT.out]
  exact⟨fun h=>(by cases h),fun k' hk=>(by cases hk;exact⟨g,rfl,g1,G2.out⟩),Q3.out⟩
 | none=>
  rw[hb] at CB HT
  have c0:=HC.out.core.cell 0 (by decide)
  have e0:z1a s 0=s.m:=rfl
  rw[e0,HC.out.m] at c0
  have HT2:Hid (z5j s l p n how=if askV l.length p n≠0 then some (z6c how+1) else none):=HT.out
  clear HT e0 hb
  go_enter Tryz.func67,Tryz.ntmps67
  go_wp2_with fail
  refine Calls.mono CB.out ?_
  intro e w1 q
  obtain rfl:=q.ok rfl
  have Q3:Hid _:=q.below
  rw[← q.below.cell (p:=⟨c,0,none⟩) HC.out.core.lt] at c0
  have CL:Hid _:=mload (HC.out.below q.below).mem p n sg HP.out
  clear q CB
  generalize hX:z2r l.length l p n sg=X at *
  have HX:Hid _:=hX
  clear hX
  generalize askV l.length p n=A at *
  go_wp2_with fail
  refine Calls.mono CL.out ?_
  rintro e wq ⟨rfl,hwq⟩
  rw[hwq]
  clear hwq wq CL
  by_cases hA:A=0
  ·subst hA
   go_wp2
   go_ret2
   rw[HT2.out,if_neg (by decide)]
   exact⟨fun _=>(by rw[HX.out];rfl),fun k' hk=>(by cases hk),Q3.out⟩
  ·have hA':=beq_eq_false_iff_ne.2 hA
   go_wp2_with fail
   refine (CU.out _).mono ?_
   rintro e w3 ⟨g3,rfl,q1,q2,q3⟩
   have B3:Hid (Below w.heap.size w w3):=z0e Q3.out q3
   have q4:w.heap.size≤g3:=Nat.le_trans Q3.out.size q1
   have Q2:Hid _:=q2
   clear q1 q2 q3
   go_wp2
   go_ret2
   rw[HT2.out,if_pos hA]
   exact⟨fun h=>(by cases h),fun k' hk=>(by cases hk;exact⟨g3,rfl,q4,Q2.out⟩),B3.out⟩
theorem z1c (W:World) (n:Nat):Below W.heap.size W (W.drewN n):=⟨rfl,rfl,rfl,Nat.le_refl _,fun _ _=>rfl⟩
theorem LAt.x {w:World} {c:Nat} {s:CS} (h:LAt w c s) (r:Nat) (hr:r<32):w.cell? ⟨c,1+r,none⟩=some (.int .u32 (s.f r)):=by
 have:=h.cell (1+r) (by omega)
 rw[this]
 unfold z1a
 rw[if_neg (by omega),if_pos (by omega),Nat.add_sub_cancel_left]
 unfold rv
 rw[if_neg (by omega)]
def setL (s:CS) (d:Nat) (x:Int):CS:=if d=0 then s else { s with f:=set1 s.f d x }
theorem lset {w : World} {c : Nat} {s : CS} (h : LAt w c s) (d : Nat) (hd : d < 32) (x : Int) :
    Calls Tryz.prog 102 #[.pointer (some ⟨c, 0, none⟩), .int .i64 d, .int .u32 x] w fun e w' => e = .returned (.tuple #[]) ∧ LAt w' c (setL s d x) ∧ Chg (· = c) w w' := by
  unfold setL
  by_cases h0:d=0
  · subst h0
    rw[if_pos rfl]
    have HC:Hid _:=h
    clear h
    go_enter Tryz.func102,Tryz.ntmps102
    go_wp2
    go_end0
    exact⟨rfl,HC.out,Chg.refl _ _⟩
  · rw[if_neg h0]
    have cx:=h.x d hd
    have fx:=h.free (1+d)
    have d0:(0:Int)≤(d:Int):=by omega
    have d1:(d:Int)<32:=by omega
    have dz:((d:Int)==0)=false:=by rw[beq_eq_false_iff_ne];omega
    have HN:Hid (LAt (w.setCell ⟨c,1+d,none⟩ (.int .u32 x)) c { s with f:=set1 s.f d x }):=by
      rw[Nat.add_comm]
      exact h.put (d+1) _ (fun j _=>lg_reg s d (by omega) (by omega) x j)
    clear h hd h0
    go_enter Tryz.func102,Tryz.ntmps102
    go_wp2
    go_end0
    exact⟨rfl,HN.out,(Chg.refl _ _).own _⟩
theorem lupper {w : World} {c : Nat} {s : CS} (h : LAt w c s) (nm : List UInt8) (hn : nm = [108, 117, 105] ∨ nm = [97, 117, 105, 112, 99]) (d a b : Nat) (hd : d < 32) (m : Int) :
    Calls Tryz.prog 71 #[.pointer (some ⟨c, 0, none⟩), .agg #[.string ⟨nm.toArray⟩, .int .i64 d, .int .i64 a, .int .i64 b, .int .i32 m]] w fun e w' => e = .returned (.tuple #[]) ∧ LAt w' c (setL s d (if nm = [108, 117, 105] then m % 4294967296 * 4096 % 4294967296 else (m % 4294967296 * 4096 % 4294967296 + s.f 32) % 4294967296)) ∧ Chg (· = c) w w' := by
  have HC:Hid _:=h
  have hc:=h.lt
  have hne:¬c=w.heap.size:=by omega
  have c33:=h.cell 33 (by decide)
  have e33:z1a s 33=.int .u32 (s.f 32):=rfl
  rw[e33] at c33
  have CS : Hid (∀ o x, Calls Tryz.prog 102 #[.pointer (some ⟨c, 0, none⟩), .int .i64 d, .int .u32 x] (w.alloc o) fun e w' => e = .returned (.tuple #[]) ∧ LAt w' c (setL s d x) ∧ Chg (· = c) w w') := fun o x => (lset (h.below ((Below.refl _ _).alloc (Nat.le_refl _) o)) d hd x).mono fun e w' q => ⟨q.1, q.2.1, (Chg.of ((Below.refl _ _).alloc (Nat.le_refl _) o)).trans q.2.2⟩
  clear h e33
  generalize s.f 32=pc at *
  rcases hn with rfl | rfl
  all_goals
    go_enter Tryz.func71,Tryz.ntmps71
    go_wp2_with fail
    refine (CS.out _ _).mono ?_
    rintro e w1 ⟨rfl,h1,g1⟩
    have H1:Hid _:=h1
    have G1:Hid _:=g1
    clear h1 g1 CS
    go_wp2
    go_end0
    exact⟨rfl,H1.out,G1.out⟩
def holdsV (nm:List UInt8) (x y:Int):Bool:=
 if nm=[98,101,113] then x==y else if nm=[98,110,101] then !(x==y) else if nm=[98,108,116] then decide (wrap32 x<wrap32 y) else if nm=[98,103,101] then decide (wrap32 y≤wrap32 x)
 else if nm=[98,108,116,117] then decide (x<y) else decide (y≤x)
theorem cholds (nm:List UInt8) (hn:nm=[98,101,113]∨nm=[98,110,101]∨nm=[98,108,116]∨nm=[98,103,101]∨nm=[98,108,116,117]∨nm=[98,103,101,117]) (x y:Int) (w:World) :
  Calls Tryz.prog 109 #[.string ⟨nm.toArray⟩,.int .u32 x,.int .u32 y] w fun e w'=>e=.returned (.bool (holdsV nm x y))∧w'=w:=by
 rcases hn with rfl | rfl | rfl | rfl | rfl | rfl
 all_goals
  go_enter Tryz.func109,Tryz.ntmps109
  go_wp2
  go_ret
  refine⟨?_,rfl⟩
  first | rfl | (simp[holdsV];done)
theorem lbranch {w : World} {c : Nat} {s : CS} (h : LAt w c s) (nm : List UInt8) (hn : nm = [98, 101, 113] ∨ nm = [98, 110, 101] ∨ nm = [98, 108, 116] ∨ nm = [98, 103, 101] ∨ nm = [98, 108, 116, 117] ∨ nm = [98, 103, 101, 117]) (d a b : Nat) (ha : a < 32) (hb : b < 32) (m : Int) :
    Calls Tryz.prog 76 #[.pointer (some ⟨c, 0, none⟩), .agg #[.string ⟨nm.toArray⟩, .int .i64 d, .int .i64 a, .int .i64 b, .int .i32 m]] w fun e w' => e = .returned (.tuple #[]) ∧ LAt w' c { s with f := set1 s.f 32 ((s.f 32 + (if holdsV nm (s.f a) (s.f b) then m % 4294967296 else 4)) % 4294967296) } ∧ Chg (· = c) w w' := by
  have CH:Hid _:=cholds nm hn (s.f a) (s.f b)
  have ha0:(0:Int)≤(a:Int):=by omega
  have ha1:(a:Int)<32:=by omega
  have hb0:(0:Int)≤(b:Int):=by omega
  have hb1:(b:Int)<32:=by omega
  have HA:Hid _:=ha
  have HB:Hid _:=hb
  have HC:Hid _:=h
  generalize hV:holdsV nm (s.f a) (s.f b)=V at *
  clear h hn hV ha hb
  go_enter Tryz.func76,Tryz.ntmps76
  go_wp2_with fail
  have I1:=z0g w (.cells #[.string ⟨nm.toArray⟩,.int .i64 d,.int .i64 a,.int .i64 b,.int .i32 m] 52)
  have H1:Hid (LAt (w.alloc (.cells #[.string ⟨nm.toArray⟩,.int .i64 d,.int .i64 a,.int .i64 b,.int .i32 m] 52)) c s):=HC.out.below ((Below.refl _ _).alloc (Nat.le_refl _) _)
  have G1 : Hid (Chg (· = c) w (w.alloc (.cells #[.string ⟨nm.toArray⟩, .int .i64 d, .int .i64 a, .int .i64 b, .int .i32 m] 52))) := (Chg.refl _ _).alloc _
  generalize w.alloc (.cells #[.string ⟨nm.toArray⟩,.int .i64 d,.int .i64 a,.int .i64 b,.int .i32 m] 52)=W1 at *
  generalize w.heap.size=bi at *
  obtain⟨ic,_,il⟩:=z0a I1
  have i0:=ic 0 (.string ⟨nm.toArray⟩) rfl
  have i2:=ic 2 (.int .i64 a) rfl
  have i3:=ic 3 (.int .i64 b) rfl
  have i4:=ic 4 (.int .i32 m) rfl
  have xa:=H1.out.x a HA.out
  have xb:=H1.out.x b HB.out
  clear ic il
  go_quiet (first | (go_at_call 109;exact Calls.quiet_of_same (CH.out _)))
  have H2:Hid (LAt (W1.drewN nq) c s):=H1.out.below (z1c W1 nq)
  have G2 : Hid (Chg (· = c) w (W1.drewN nq)) := G1.out.step (z1c W1 nq)
  have i4:=(z0a (z0f I1 (z1c W1 nq))).1 4 (.int .i32 m) rfl
  generalize W1.drewN nq=W2 at *
  have c33:=H2.out.cell 33 (by decide)
  have f33:=H2.out.free 33
  have e33:z1a s 33=.int .u32 (s.f 32):=rfl
  rw[e33] at c33
  clear xa xb i0 i2 i3 H1 G1 I1 e33 CH
  generalize hq:s.f 32=q at *
  cases V
  all_goals
    go_wp2
    go_end0
    exact⟨rfl,H2.out.put 33 _ (fun j _=>lg_reg s 32 (by decide) (by decide) _ j),G2.out.own _⟩
theorem z7h {P:Program} {id:Nat} {Q:Exit→Act→World→Prop} {a:Act} {w:World} {l:List Oper} (n:Nat) (hm:P.follows .mixedOrders=true) (hB:Region.lexTailB .any l.toArray n=true)
  (h:wpStill P l.toArray w.drew (fun a'=>wpList P l.toArray Q (l.drop n) a' w.drew) (l.take n) a):(Code.region id l.toArray true).wp P Q a w:=wp_region_still_tail n hm hB h
theorem ljump {w : World} {c : Nat} {s : CS} (h : LAt w c s) (nm : List UInt8) (hn : nm = [106, 97, 108] ∨ nm = [106, 97, 108, 114]) (d a b : Nat) (hd : d < 32) (ha : a < 32) (m : Int) (to : Int) (hto : to = if nm = [106, 97, 108] then (s.f 32 + m) % 4294967296 else bits .andNot .u32 ((s.f a + m) % 4294967296) 1) :
    Calls Tryz.prog 77 #[.pointer (some ⟨c, 0, none⟩), .agg #[.string ⟨nm.toArray⟩, .int .i64 d, .int .i64 a, .int .i64 b, .int .i32 m]] w fun e w' => e = .returned (.tuple #[]) ∧ LAt w' c { (setL s d ((s.f 32 + 4) % 4294967296)) with f := set1 (setL s d ((s.f 32 + 4) % 4294967296)).f 32 to } ∧ Chg (· = c) w w' := by
  have ha0:(0:Int)≤(a:Int):=by omega
  have ha1:(a:Int)<32:=by omega
  have HA:Hid _:=ha
  have HD:Hid _:=hd
  have HC:Hid _:=h
  have HTO:Hid _:=hto
  have hmo:Tryz.prog.follows .mixedOrders=true:=by kernel_rfl
  clear h ha hd hto
  go_enter Tryz.func77,Tryz.ntmps77
  go_wp2_with fail
  have I1:=z0g w (.cells #[.string ⟨nm.toArray⟩,.int .i64 d,.int .i64 a,.int .i64 b,.int .i32 m] 52)
  have H1:Hid (LAt (w.alloc (.cells #[.string ⟨nm.toArray⟩,.int .i64 d,.int .i64 a,.int .i64 b,.int .i32 m] 52)) c s):=HC.out.below ((Below.refl _ _).alloc (Nat.le_refl _) _)
  have G1 : Hid (Chg (· = c) w (w.alloc (.cells #[.string ⟨nm.toArray⟩, .int .i64 d, .int .i64 a, .int .i64 b, .int .i32 m] 52))) := (Chg.refl _ _).alloc _
  generalize w.alloc (.cells #[.string ⟨nm.toArray⟩,.int .i64 d,.int .i64 a,.int .i64 b,.int .i32 m] 52)=W1 at *
  generalize w.heap.size=bi at *
  have i4:=(z0a I1).1 4 (.int .i32 m) rfl
  have c33:=H1.out.cell 33 (by decide)
  have e33:z1a s 33=.int .u32 (s.f 32):=rfl
  rw[e33] at c33
  go_quiet (fail)
  have H2:Hid (LAt (W1.drewN nq) c s):=H1.out.below (z1c W1 nq)
  have G2 : Hid (Chg (· = c) w (W1.drewN nq)) := G1.out.step (z1c W1 nq)
  have I2:=z0f I1 (z1c W1 nq)
  generalize W1.drewN nq=W2 at *
  clear H1 G1 I1 i4 c33
  have i0:=(z0a I2).1 0 (.string ⟨nm.toArray⟩) rfl
  rcases hn with rfl | rfl
  · have H3:Hid _:=H2.out
    have G3:Hid _:=G2.out
    have I3:=I2
    have j1:=(z0a I3).1 1 (.int .i64 d) rfl
    have p33:=H3.out.cell 33 (by decide)
    have ep:z1a s 33=.int .u32 (s.f 32):=rfl
    rw[ep] at p33
    clear ep
    go_wp2_with fail
    refine z7h 9 (by kernel_rfl) (by kernel_rfl) ?_
    simp only[List.take_succ_cons,List.take_zero,List.drop_succ_cons,List.drop_zero]
    still_step
    still_step
    still_step
    still_step
    still_step
    still_step
    still_step
    still_step
    still_step
    refine wpStill_nil ?_
    go_wp2_with fail
    refine (lset H3.out.drew d HD.out _).mono ?_
    rintro e w4 ⟨rfl,h4,g4⟩
    have c33:=h4.cell 33 (by decide)
    have f33:=h4.free 33
    have e33:z1a (setL s d ((s.f 32+4)%4294967296)) 33=.int .u32 ((setL s d ((s.f 32+4)%4294967296)).f 32):=rfl
    rw[e33] at c33
    have H4:Hid _:=h4
    have G4:Hid _:=G3.out.drew.trans g4
    clear h4 g4 e33 j1 p33
    generalize hS4:setL s d ((s.f 32+4)%4294967296)=S4 at *
    have HS4:Hid _:=hS4
    clear hS4
    generalize S4.f 32=q4 at *
    go_wp2
    go_end0
    rw[HS4.out]
    rw[show to=(s.f 32+m)%4294967296 from HTO.out.trans (by simp)]
    exact⟨rfl,H4.out.put 33 _ (fun j _=>lg_reg S4 32 (by decide) (by decide) _ j),G4.out.own _⟩
  · have i2:=(z0a I2).1 2 (.int .i64 a) rfl
    have i4:=(z0a I2).1 4 (.int .i32 m) rfl
    have xa:=H2.out.x a HA.out
    go_wp2_with fail
    go_quiet (fail)
    have H3:Hid (LAt (W2.drewN nq) c s):=H2.out.below (z1c W2 nq)
    have G3 : Hid (Chg (· = c) w (W2.drewN nq)) := G2.out.step (z1c W2 nq)
    have I3:=z0f I2 (z1c W2 nq)
    generalize W2.drewN nq=W3 at *
    clear H2 G2 I2 i0 i2 i4 xa
    have j1:=(z0a I3).1 1 (.int .i64 d) rfl
    have p33:=H3.out.cell 33 (by decide)
    have ep:z1a s 33=.int .u32 (s.f 32):=rfl
    rw[ep] at p33
    clear ep
    go_wp2_with fail
    refine z7h 9 (by kernel_rfl) (by kernel_rfl) ?_
    simp only[List.take_succ_cons,List.take_zero,List.drop_succ_cons,List.drop_zero]
    still_step
    still_step
    still_step
    still_step
    still_step
    still_step
    still_step
    still_step
    still_step
    refine wpStill_nil ?_
    go_wp2_with fail
    refine (lset H3.out.drew d HD.out _).mono ?_
    rintro e w4 ⟨rfl,h4,g4⟩
    have c33:=h4.cell 33 (by decide)
    have f33:=h4.free 33
    have e33:z1a (setL s d ((s.f 32+4)%4294967296)) 33=.int .u32 ((setL s d ((s.f 32+4)%4294967296)).f 32):=rfl
    rw[e33] at c33
    have H4:Hid _:=h4
    have G4:Hid _:=G3.out.drew.trans g4
    clear h4 g4 e33 j1 p33
    generalize hS4:setL s d ((s.f 32+4)%4294967296)=S4 at *
    have HS4:Hid _:=hS4
    clear hS4
    generalize S4.f 32=q4 at *
    go_wp2
    go_end0
    rw[HS4.out]
    rw[show to=bits .andNot .u32 ((s.f a+m)%4294967296) 1 from HTO.out.trans (by simp)]
    exact⟨rfl,H4.out.put 33 _ (fun j _=>lg_reg S4 32 (by decide) (by decide) _ j),G4.out.own _⟩
theorem lwait {w : World} {c : Nat} {s : CS} (h : LAt w c s) :
    Calls Tryz.prog 75 #[.pointer (some ⟨c, 0, none⟩)] w fun e w' => e = .returned (.tuple #[]) ∧ LAt w' c (if s.set then { s with t := max s.t s.cmp } else s) ∧ Chg (· = c) w w' := by
  have c58:=h.cell 58 (by decide)
  have f58:=h.free 58
  have c59:=h.cell 59 (by decide)
  have c60:=h.cell 60 (by decide)
  have e58:z1a s 58=.int .i64 s.t:=rfl
  have e59:z1a s 59=.bool s.set:=rfl
  have e60:z1a s 60=.int .i64 s.cmp:=rfl
  rw[e58] at c58
  rw[e59] at c59
  rw[e60] at c60
  have HC:Hid _:=h
  clear h e58 e59 e60
  rcases (show s.set=false∨s.set=true by cases s.set <;> simp) with hb | hb
  · rw[if_neg (by rw[hb];decide)]
    rw[hb] at c59
    clear hb
    go_enter Tryz.func75,Tryz.ntmps75
    go_wp2
    go_end0
    exact⟨rfl,HC.out,Chg.refl _ _⟩
  · rw[if_pos hb]
    rw[hb] at c59
    clear hb
    have HP:Hid (∀ x,LAt (w.drew.setCell ⟨c,58,none⟩ (.int .i64 x)) c { s with t:=x }):=fun x=>HC.out.drew.put 58 _ (fun j _=>lg_t s x j)
    have HG : Hid (∀ x, Chg (· = c) w (w.drew.setCell ⟨c, 58, none⟩ (.int .i64 x))) := fun x => (Chg.refl _ _).drew.own _
    obtain⟨t,ht⟩:∃ t,t=s.t:=⟨_,rfl⟩
    obtain⟨k,hk⟩:∃ k,k=s.cmp:=⟨_,rfl⟩
    obtain⟨M,hM⟩:∃ M,M=max s.t s.cmp:=⟨_,rfl⟩
    rw[← hM]
    rw[← ht] at c58
    rw[← hk] at c60
    rw[← ht,← hk] at hM
    have HM:Hid _:=hM
    have QS:Hid (∀ x,M=x→LAt (w.drew.setCell ⟨c,58,none⟩ (.int .i64 x)) c { s with t:=M }):=fun x hx=>by rw[hx];exact HP.out x
    clear ht hk hM HP
    go_enter Tryz.func75,Tryz.ntmps75
    go_wp2_with fail
    refine z7h 12 (by kernel_rfl) (by kernel_rfl) ?_
    simp only[List.take_succ_cons,List.take_zero,List.drop_succ_cons,List.drop_zero]
    still_step
    still_step
    still_step
    still_step
    still_step
    still_step
    still_step
    still_step
    still_step
    still_step
    still_step
    still_step
    refine wpStill_nil ?_
    go_wp2
    all_goals go_end0
    all_goals exact⟨rfl,QS.out _ (by have:=HM.out;omega),HG.out _⟩
def ops0:List (List UInt8):=[[109,117,108],[109,117,108,104],[109,117,108,104,115,117],[109,117,108,104,117]]
def ops1:List (List UInt8):=[[100,105,118],[100,105,118,117],[114,101,109],[114,101,109,117]]
def ops2:List (List UInt8):=[[97,100,100,105],[115,108,116,105],[115,108,116,105,117],[120,111,114,105],[111,114,105],[97,110,100,105],[115,108,108,105],[115,114,108,105],[115,114,97,105]]
def ops3:List (List UInt8):=[[108,117,105],[97,117,105,112,99]]
def ops4:List (List UInt8):=[[108,98],[108,104],[108,119],[108,98,117],[108,104,117]]
def ops5:List (List UInt8):=[[115,98],[115,104],[115,119]]
def ops6:List (List UInt8):=[[98,101,113],[98,110,101],[98,108,116],[98,103,101],[98,108,116,117],[98,103,101,117]]
def ops7:List (List UInt8):=[[106,97,108],[106,97,108,114]]
def ops8:List (List UInt8):=[[99,115,114,114,119],[99,115,114,114,115],[99,115,114,114,99]]
def ops9:List (List UInt8):=[[109,114,101,116]]
def ops10:List (List UInt8):=[[119,102,105]]
def ops11:List (List UInt8):=[[102,101,110,99,101]]
def ops12:List (List UInt8):=[[101,99,97,108,108],[101,98,114,101,97,107]]
def ops13:List (List UInt8):=[[97,100,100],[115,117,98],[115,108,108],[115,108,116],[115,108,116,117],[120,111,114],[115,114,108],[115,114,97],[111,114],[97,110,100]]
def shTab:List (List (List UInt8) × Int × Int):=[(ops0,2,2),(ops1,3,2),(ops2,1,3),(ops3,4,3),(ops4,5,3),(ops5,6,3),(ops6,7,2),(ops7,8,3),(ops8,9,2),(ops9,10,1),(ops10,11,1),(ops11,12,1),(ops12,13,1),(ops13,1,2)]
def z1o (s:List UInt8):Int × Int:=((shTab.find? fun q=>q.1.contains s).map (·.2)).getD (0,0)
theorem cshape_0 (s:List UInt8) (h:s∈ops0) (w:World):Calls Tryz.prog 45 #[.string ⟨s.toArray⟩] w fun e w'=>e=.returned (.agg #[.int .i64 2,.int .i64 2])∧Below w.heap.size w w':=by
 simp only[ops0,List.mem_cons,List.not_mem_nil,or_false] at h
 rcases h with rfl | rfl | rfl | rfl
 all_goals
  go_enter Tryz.func45,Tryz.ntmps45
  go_wp2
  refine bodyPost_ret (v:=.agg #[.int .i64 2,.int .i64 2]) (by simp[results,Tryz.results45,go_sem]) rfl ⟨rfl,(Below.refl _ _).alloc (Nat.le_refl _) _⟩
theorem cshape_1 (s:List UInt8) (h:s∈ops1) (w:World):Calls Tryz.prog 45 #[.string ⟨s.toArray⟩] w fun e w'=>e=.returned (.agg #[.int .i64 3,.int .i64 2])∧Below w.heap.size w w':=by
 simp only[ops1,List.mem_cons,List.not_mem_nil,or_false] at h
 rcases h with rfl | rfl | rfl | rfl
 all_goals
  go_enter Tryz.func45,Tryz.ntmps45
  go_wp2
  refine bodyPost_ret (v:=.agg #[.int .i64 3,.int .i64 2]) (by simp[results,Tryz.results45,go_sem]) rfl ⟨rfl,(Below.refl _ _).alloc (Nat.le_refl _) _⟩
theorem cshape_2 (s:List UInt8) (h:s∈ops2) (w:World):Calls Tryz.prog 45 #[.string ⟨s.toArray⟩] w fun e w'=>e=.returned (.agg #[.int .i64 1,.int .i64 3])∧Below w.heap.size w w':=by
 simp only[ops2,List.mem_cons,List.not_mem_nil,or_false] at h
 rcases h with rfl | rfl | rfl | rfl | rfl | rfl | rfl | rfl | rfl
 all_goals
  go_enter Tryz.func45,Tryz.ntmps45
  go_wp2
  refine bodyPost_ret (v:=.agg #[.int .i64 1,.int .i64 3]) (by simp[results,Tryz.results45,go_sem]) rfl ⟨rfl,(Below.refl _ _).alloc (Nat.le_refl _) _⟩
theorem cshape_3 (s:List UInt8) (h:s∈ops3) (w:World):Calls Tryz.prog 45 #[.string ⟨s.toArray⟩] w fun e w'=>e=.returned (.agg #[.int .i64 4,.int .i64 3])∧Below w.heap.size w w':=by
 simp only[ops3,List.mem_cons,List.not_mem_nil,or_false] at h
 rcases h with rfl | rfl
 all_goals
  go_enter Tryz.func45,Tryz.ntmps45
  go_wp2
  refine bodyPost_ret (v:=.agg #[.int .i64 4,.int .i64 3]) (by simp[results,Tryz.results45,go_sem]) rfl ⟨rfl,(Below.refl _ _).alloc (Nat.le_refl _) _⟩
theorem cshape_4 (s:List UInt8) (h:s∈ops4) (w:World):Calls Tryz.prog 45 #[.string ⟨s.toArray⟩] w fun e w'=>e=.returned (.agg #[.int .i64 5,.int .i64 3])∧Below w.heap.size w w':=by
 simp only[ops4,List.mem_cons,List.not_mem_nil,or_false] at h
 rcases h with rfl | rfl | rfl | rfl | rfl
 all_goals
  go_enter Tryz.func45,Tryz.ntmps45
  go_wp2
  refine bodyPost_ret (v:=.agg #[.int .i64 5,.int .i64 3]) (by simp[results,Tryz.results45,go_sem]) rfl ⟨rfl,(Below.refl _ _).alloc (Nat.le_refl _) _⟩
theorem cshape_5 (s:List UInt8) (h:s∈ops5) (w:World):Calls Tryz.prog 45 #[.string ⟨s.toArray⟩] w fun e w'=>e=.returned (.agg #[.int .i64 6,.int .i64 3])∧Below w.heap.size w w':=by
 simp only[ops5,List.mem_cons,List.not_mem_nil,or_false] at h
 rcases h with rfl | rfl | rfl
 all_goals
  go_enter Tryz.func45,Tryz.ntmps45
  go_wp2
  refine bodyPost_ret (v:=.agg #[.int .i64 6,.int .i64 3]) (by simp[results,Tryz.results45,go_sem]) rfl ⟨rfl,(Below.refl _ _).alloc (Nat.le_refl _) _⟩
theorem cshape_6 (s:List UInt8) (h:s∈ops6) (w:World):Calls Tryz.prog 45 #[.string ⟨s.toArray⟩] w fun e w'=>e=.returned (.agg #[.int .i64 7,.int .i64 2])∧Below w.heap.size w w':=by
 simp only[ops6,List.mem_cons,List.not_mem_nil,or_false] at h
 rcases h with rfl | rfl | rfl | rfl | rfl | rfl
 all_goals
  go_enter Tryz.func45,Tryz.ntmps45
  go_wp2
  refine bodyPost_ret (v:=.agg #[.int .i64 7,.int .i64 2]) (by simp[results,Tryz.results45,go_sem]) rfl ⟨rfl,(Below.refl _ _).alloc (Nat.le_refl _) _⟩
theorem cshape_7 (s:List UInt8) (h:s∈ops7) (w:World):Calls Tryz.prog 45 #[.string ⟨s.toArray⟩] w fun e w'=>e=.returned (.agg #[.int .i64 8,.int .i64 3])∧Below w.heap.size w w':=by
 simp only[ops7,List.mem_cons,List.not_mem_nil,or_false] at h
 rcases h with rfl | rfl
 all_goals
  go_enter Tryz.func45,Tryz.ntmps45
  go_wp2
  refine bodyPost_ret (v:=.agg #[.int .i64 8,.int .i64 3]) (by simp[results,Tryz.results45,go_sem]) rfl ⟨rfl,(Below.refl _ _).alloc (Nat.le_refl _) _⟩
theorem cshape_8 (s:List UInt8) (h:s∈ops8) (w:World):Calls Tryz.prog 45 #[.string ⟨s.toArray⟩] w fun e w'=>e=.returned (.agg #[.int .i64 9,.int .i64 2])∧Below w.heap.size w w':=by
 simp only[ops8,List.mem_cons,List.not_mem_nil,or_false] at h
 rcases h with rfl | rfl | rfl
 all_goals
  go_enter Tryz.func45,Tryz.ntmps45
  go_wp2
  refine bodyPost_ret (v:=.agg #[.int .i64 9,.int .i64 2]) (by simp[results,Tryz.results45,go_sem]) rfl ⟨rfl,(Below.refl _ _).alloc (Nat.le_refl _) _⟩
theorem cshape_9 (s:List UInt8) (h:s∈ops9) (w:World):Calls Tryz.prog 45 #[.string ⟨s.toArray⟩] w fun e w'=>e=.returned (.agg #[.int .i64 10,.int .i64 1])∧Below w.heap.size w w':=by
 simp only[ops9,List.mem_cons,List.not_mem_nil,or_false] at h
 subst h
 all_goals
  go_enter Tryz.func45,Tryz.ntmps45
  go_wp2
  refine bodyPost_ret (v:=.agg #[.int .i64 10,.int .i64 1]) (by simp[results,Tryz.results45,go_sem]) rfl ⟨rfl,(Below.refl _ _).alloc (Nat.le_refl _) _⟩
theorem cshape_10 (s:List UInt8) (h:s∈ops10) (w:World):Calls Tryz.prog 45 #[.string ⟨s.toArray⟩] w fun e w'=>e=.returned (.agg #[.int .i64 11,.int .i64 1])∧Below w.heap.size w w':=by
 simp only[ops10,List.mem_cons,List.not_mem_nil,or_false] at h
 subst h
 all_goals
  go_enter Tryz.func45,Tryz.ntmps45
  go_wp2
  refine bodyPost_ret (v:=.agg #[.int .i64 11,.int .i64 1]) (by simp[results,Tryz.results45,go_sem]) rfl ⟨rfl,(Below.refl _ _).alloc (Nat.le_refl _) _⟩
theorem cshape_11 (s:List UInt8) (h:s∈ops11) (w:World):Calls Tryz.prog 45 #[.string ⟨s.toArray⟩] w fun e w'=>e=.returned (.agg #[.int .i64 12,.int .i64 1])∧Below w.heap.size w w':=by
 simp only[ops11,List.mem_cons,List.not_mem_nil,or_false] at h
 subst h
 all_goals
  go_enter Tryz.func45,Tryz.ntmps45
  go_wp2
  refine bodyPost_ret (v:=.agg #[.int .i64 12,.int .i64 1]) (by simp[results,Tryz.results45,go_sem]) rfl ⟨rfl,(Below.refl _ _).alloc (Nat.le_refl _) _⟩
theorem cshape_12 (s:List UInt8) (h:s∈ops12) (w:World):Calls Tryz.prog 45 #[.string ⟨s.toArray⟩] w fun e w'=>e=.returned (.agg #[.int .i64 13,.int .i64 1])∧Below w.heap.size w w':=by
 simp only[ops12,List.mem_cons,List.not_mem_nil,or_false] at h
 rcases h with rfl | rfl
 all_goals
  go_enter Tryz.func45,Tryz.ntmps45
  go_wp2
  refine bodyPost_ret (v:=.agg #[.int .i64 13,.int .i64 1]) (by simp[results,Tryz.results45,go_sem]) rfl ⟨rfl,(Below.refl _ _).alloc (Nat.le_refl _) _⟩
theorem cshape_13 (s:List UInt8) (h:s∈ops13) (w:World):Calls Tryz.prog 45 #[.string ⟨s.toArray⟩] w fun e w'=>e=.returned (.agg #[.int .i64 1,.int .i64 2])∧Below w.heap.size w w':=by
 simp only[ops13,List.mem_cons,List.not_mem_nil,or_false] at h
 rcases h with rfl | rfl | rfl | rfl | rfl | rfl | rfl | rfl | rfl | rfl
 all_goals
  go_enter Tryz.func45,Tryz.ntmps45
  go_wp2
  refine bodyPost_ret (v:=.agg #[.int .i64 1,.int .i64 2]) (by simp[results,Tryz.results45,go_sem]) rfl ⟨rfl,(Below.refl _ _).alloc (Nat.le_refl _) _⟩
def z1w:List (List UInt8):=ops0++ops1++ops2++ops3++ops4++ops5++ops6++ops7++ops8++ops9++ops10++ops11++ops12++ops13
theorem z5e (s:List UInt8) (h:s∈z1w) (w:World):Calls Tryz.prog 45 #[.string ⟨s.toArray⟩] w fun e w'=>e=.returned (.agg #[.int .i64 (z1o s).1,.int .i64 (z1o s).2])∧Below w.heap.size w w':=by
 simp only[z1w,List.mem_append] at h
 rcases h with (((((((((((((h | h) | h) | h) | h) | h) | h) | h) | h) | h) | h) | h) | h) | h)
 ·have e:z1o s=(2,2):=by
   revert s
   decide +kernel
  rw[e]
  exact cshape_0 s h w
 ·have e:z1o s=(3,2):=by
   revert s
   decide +kernel
  rw[e]
  exact cshape_1 s h w
 ·have e:z1o s=(1,3):=by
   revert s
   decide +kernel
  rw[e]
  exact cshape_2 s h w
 ·have e:z1o s=(4,3):=by
   revert s
   decide +kernel
  rw[e]
  exact cshape_3 s h w
 ·have e:z1o s=(5,3):=by
   revert s
   decide +kernel
  rw[e]
  exact cshape_4 s h w
 ·have e:z1o s=(6,3):=by
   revert s
   decide +kernel
  rw[e]
  exact cshape_5 s h w
 ·have e:z1o s=(7,2):=by
   revert s
   decide +kernel
  rw[e]
  exact cshape_6 s h w
 ·have e:z1o s=(8,3):=by
   revert s
   decide +kernel
  rw[e]
  exact cshape_7 s h w
 ·have e:z1o s=(9,2):=by
   revert s
   decide +kernel
  rw[e]
  exact cshape_8 s h w
 ·have e:z1o s=(10,1):=by
   revert s
   decide +kernel
  rw[e]
  exact cshape_9 s h w
 ·have e:z1o s=(11,1):=by
   revert s
   decide +kernel
  rw[e]
  exact cshape_10 s h w
 ·have e:z1o s=(12,1):=by
   revert s
   decide +kernel
  rw[e]
  exact cshape_11 s h w
 ·have e:z1o s=(13,1):=by
   revert s
   decide +kernel
  rw[e]
  exact cshape_12 s h w
 ·have e:z1o s=(1,2):=by
   revert s
   decide +kernel
  rw[e]
  exact cshape_13 s h w
theorem fldS (x y:Value) (w:World):(Instr.field 91 (.agg #[x,y]) 0).run Tryz.prog w=.ok x w:=by kernel_rfl
theorem fldF (x y:Value) (w:World):(Instr.field 91 (.agg #[x,y]) 1).run Tryz.prog w=.ok y w:=by kernel_rfl
theorem ret_boolK {x y:Bool} (h:x=y):Ending.returned (.bool x)=.returned (.bool y):=by rw[h]
def kernelB (k:Int):Bool:=k==10||k==11||k==9
theorem cisKernels (s:List UInt8) (h:s∈z1w) (w:World):Calls Tryz.prog 69 #[.string ⟨s.toArray⟩] w fun e w'=>e=.returned (.bool (kernelB (z1o s).1))∧Below w.heap.size w w':=by
 have CS:Hid _:=z5e s h
 have hk:=fun w=>fldS (.int .i64 (z1o s).1) (.int .i64 (z1o s).2) w
 clear h
 generalize (z1o s).1=k at *
 generalize (z1o s).2=f at *
 unfold kernelB
 go_enter Tryz.func69,Tryz.ntmps69
 go_wp2_with fail
 refine (CS.out _).mono ?_
 rintro e w1 ⟨rfl,b1⟩
 have B1:Hid _:=b1
 clear b1
 go_wp2
 all_goals go_ret
 all_goals refine⟨ret_boolK ?_,B1.out⟩
 all_goals simp only[*,Bool.or_true,Bool.true_or,Bool.or_self]
section
open Go.RowKit Go.Shelf
theorem index_i (pre post:List UInt8) (hp:(105:UInt8)∉pre):Lib.indexByte (pre++105::post) 105=pre.length:=by
 induction pre with
 | nil=>simp[Lib.indexByte]
 | cons b l ih=>
  simp only[List.mem_cons,not_or] at hp
  have h1:(b==105)=false:=by simpa using Ne.symm hp.1
  have h2:=ih hp.2
  simp only[List.cons_append,Lib.indexByte,h1,h2]
  have h3:((l.length:Int) == -1)=false:=by rw[beq_eq_false_iff_ne];omega
  rw[h3]
  simp
theorem count_i (pre post:List UInt8) (hp:(105:UInt8)∉pre) (hq:(105:UInt8)∉post):Lib.countByte (pre++105::post) 105=1:=by
 unfold Lib.countByte
 rw[List.count_append,List.count_cons_self,List.count_eq_zero.2 hp,List.count_eq_zero.2 hq]
theorem cReplace (pre post:List UInt8) (hp:(105:UInt8)∉pre) (hq:(105:UInt8)∉post) (hl:pre.length≤100) (hl':post.length≤100) (w:World) :
  Calls Tryz.prog 100 #[.string ⟨(pre++105::post).toArray⟩,.string ⟨#[105]⟩,.string ⟨#[]⟩,.int .i64 1] w fun e w'=>e=.returned (.string ⟨(pre++post).toArray⟩)∧Below w.heap.size w w':=by
 have CC:Hid (∀ w,Calls Tryz.prog 119 #[.string ⟨(pre++105::post).toArray⟩,.string ⟨#[105]⟩] w fun e w'=>e=.returned (.int .i64 1)∧w'=w):=fun w=>by
  have:=Any.strings_Count_one { Tryz.lays154 with } ⟨(pre++105::post).toArray⟩ 105 w
  rw[show (⟨(pre++105::post).toArray⟩:ByteArray).data.toList=pre++105::post from rfl,count_i pre post hp hq] at this
  exact this
 have CI:Hid (∀ w,Calls Tryz.prog 121 #[.string ⟨(pre++105::post).toArray⟩,.string ⟨#[105]⟩] w fun e w'=>e=.returned (.int .i64 pre.length)∧w'=w):=fun w=>by
  have:=Any.strings_Index_one { Tryz.lays154 with } ⟨(pre++105::post).toArray⟩ 105 w
  rw[show (⟨(pre++105::post).toArray⟩:ByteArray).data.toList=pre++105::post from rfl,index_i pre post hp] at this
  exact this
 have hsz:(⟨(pre++105::post).toArray⟩:ByteArray).size=pre.length+post.length+1:=by
  show (pre++105::post).toArray.size=_
  simp;omega
 have e1:Hid ((⟨(pre++105::post).toArray⟩:ByteArray).extract 0 pre.length=⟨pre.toArray⟩):=by
  show _=_
  apply ByteArray.ext
  rw[ByteArray.data_extract]
  simp
 have e2:Hid ((⟨(pre++105::post).toArray⟩:ByteArray).extract (pre.length+1) (pre.length+post.length+1)=⟨post.toArray⟩):=by
  show _=_
  apply ByteArray.ext
  rw[ByteArray.data_extract]
  simp
 have e0:Hid ((⟨(pre++105::post).toArray⟩:ByteArray).extract 0 (pre.length+post.length+1)=⟨(pre++105::post).toArray⟩):=by
  show _=_
  rw[← hsz]
  exact ByteArray.extract_zero_size
 go_enter Tryz.func100,Tryz.ntmps100
 go_wp2_with (first | (go_at_call 119;refine (CC.out _).mono ?_;rintro e wq ⟨rfl,hwq⟩;rw[hwq];clear hwq wq))
 rw[show (pre.length:Int)+(post.length:Int)+1+-1=((pre.length+post.length:Nat):Int) by omega]
 refine (Any.Builder_Grow_fresh { Tryz.lays154 with } Tryz.Builder_Extra_154 w.heap.size w.heap.size (pre.length+post.length) _ (Nat.le_refl _) (heap_alloc_new w _) (by simp) (by omega)).mono ?_
 rintro e w1 ⟨rfl,hb0,hb1⟩
 have H1:Hid (Lib.IsBuilder 177 5 w.heap.size w.heap.size (Lib.byteCells []) w1):=Or.inr hb0
 have B1:Hid (Below w.heap.size w w1):=((Below.refl w.heap.size w).alloc (Nat.le_refl _) _).trans hb1
 clear hb0 hb1 CC
 go_wp2_with fail
 go_loopw [11,53] (fun a i wr=>(a=.int .i64 0∧i=.int .i64 0∧Hid (Lib.IsBuilder 177 5 w.heap.size w.heap.size (Lib.byteCells []) wr)∧Hid (Below w.heap.size w wr))∨(a=.int .i64 (pre.length+1)∧i=.int .i64 1∧Hid (Lib.IsBuilder 177 5 w.heap.size w.heap.size (Lib.byteCells pre) wr)∧Hid (Below w.heap.size w wr))) (fun _ i _=>1-(RowKit.intOf i).toNat)
 case atStart=>exact Or.inl ⟨rfl,rfl,H1,B1⟩
 case round=>
  clear H1 B1
  have c1:(0:Int)≤(pre.length:Int)+1:=by omega
  have c2:(pre.length:Int)+1≤(pre.length:Int)+(post.length:Int)+1:=by omega
  have c3:(pre.length:Int)≤(pre.length:Int)+(post.length:Int)+1:=by omega
  rcases hrel with ⟨rfl,rfl,HB,HW⟩ | ⟨rfl,rfl,HB,HW⟩
  ·have hBw:w.heap.size≤wr.heap.size:=HW.out.size
   have EP:Hid (Lib.byteCells []++Lib.strCells ⟨pre.toArray⟩=Lib.byteCells pre):=rfl
   have EQ:Hid (Lib.byteCells pre++Lib.strCells ⟨#[]⟩=Lib.byteCells pre):=List.append_nil _
   go_wp2_with fail
   rw[e0.out]
   refine (CI.out _).mono ?_
   rintro e wq ⟨rfl,hwq⟩
   rw[hwq]
   clear hwq wq
   go_wp2_with fail
   rw[e1.out]
   refine (Any.Builder_WriteString { Tryz.lays154 with } Tryz.Builder_Extra_154 w.heap.size w.heap.size _ ⟨pre.toArray⟩ wr HB.out (by rw[Lib.byteCells_length];show 0+pre.toArray.size≤_;simp;omega) hBw).mono ?_
   rintro e w3 ⟨rfl,h3,hb3⟩
   rw[EP.out] at h3
   have hBw3:w.heap.size≤w3.heap.size:=Nat.le_trans hBw hb3.size
   have H3:Hid _:=h3
   have B3:Hid _:=hb3
   clear h3 hb3
   go_wp2_with fail
   refine (Any.Builder_WriteString { Tryz.lays154 with } Tryz.Builder_Extra_154 w.heap.size w.heap.size _ ⟨#[]⟩ w3 (Or.inr H3.out) (by rw[Lib.byteCells_length];show pre.length+0≤_;omega) hBw3).mono ?_
   rintro e w4 ⟨rfl,h4,hb4⟩
   rw[EQ.out] at h4
   have H4:Hid (Lib.IsBuilder 177 5 w.heap.size w.heap.size (Lib.byteCells pre) w4):=Or.inr h4
   have B4:Hid _:=(HW.out.trans B3.out).trans hb4
   clear h4 hb4
   go_wp2_with fail
   exact⟨Or.inr ⟨rfl,rfl,H4,B4⟩,by simp[RowKit.intOf]⟩
  ·have hBw:w.heap.size≤wr.heap.size:=HW.out.size
   have EP:Hid (Lib.byteCells pre++Lib.strCells ⟨post.toArray⟩=Lib.byteCells (pre++post)):=by rw[Lib.byteCells_append];rfl
   go_wp2_with fail
   rw[e2.out]
   refine (Any.Builder_WriteString { Tryz.lays154 with } Tryz.Builder_Extra_154 w.heap.size w.heap.size _ ⟨post.toArray⟩ wr HB.out (by rw[Lib.byteCells_length];show pre.length+post.toArray.size≤_;simp;omega) hBw).mono ?_
   rintro e w3 ⟨rfl,h3,hb3⟩
   rw[EP.out] at h3
   have H3:Hid (Lib.IsBuilder 177 5 w.heap.size w.heap.size (Lib.byteCells (pre++post)) w3):=Or.inr h3
   have B3:Hid _:=HW.out.trans hb3
   have hBw3:w.heap.size≤w3.heap.size:=B3.out.size
   clear h3 hb3
   go_wp2_with fail
   refine (Any.Builder_String_any { Tryz.lays154 with } Tryz.Builder_Extra_154 w.heap.size w.heap.size _ w3 H3.out hBw3).mono ?_
   rintro e w5 ⟨rfl,hb5⟩
   have B5:Hid _:=B3.out.trans hb5
   clear hb5
   go_wp2
   go_ret
   exact⟨rfl,B5.out⟩
end
theorem nm_list (nm:List UInt8):ByteArray.toList ⟨nm.toArray⟩=nm:=by rw[ByteArray.toList_eq]
theorem loperate_R {w : World} {c : Nat} {s : CS} (h : LAt w c s) (hf : ∀ i, U32 (s.f i)) (nm : List UInt8) (hnm : nm ∈ z1w) (h2 : (z1o nm).2 = 2) (d a b : Nat) (hd : d < 32) (ha : a < 32) (hb : b < 32) (m : Int) :
    Calls Tryz.prog 70 #[.pointer (some ⟨c, 0, none⟩), .agg #[.string ⟨nm.toArray⟩, .int .i64 d, .int .i64 a, .int .i64 b, .int .i32 m]] w fun e w' => e = .returned (.tuple #[]) ∧ LAt w' c (setL s d (opN nm (s.f a) (s.f b))) ∧ Chg (· = c) w w' := by
  have ha0:(0:Int)≤(a:Int):=by omega
  have ha1:(a:Int)<32:=by omega
  have hb0:(0:Int)≤(b:Int):=by omega
  have hb1:(b:Int)<32:=by omega
  have HA:Hid _:=ha
  have HB:Hid _:=hb
  have HD:Hid _:=hd
  have HC:Hid _:=h
  have CS:Hid _:=z5e nm hnm
  rw[h2] at CS
  have fd:=fun w=>fldF (.int .i64 (z1o nm).1) (.int .i64 2) w
  generalize (z1o nm).1=kk at *
  have CW:Hid _:=wordOp ⟨nm.toArray⟩ (s.f a) (s.f b) (hf a) (hf b)
  rw[nm_list] at CW
  obtain⟨N,hN⟩:∃ N,N=opN nm (s.f a) (s.f b):=⟨_,rfl⟩
  obtain⟨E,hE⟩:∃ E,E=opE nm:=⟨_,rfl⟩
  rw[← hN]
  rw[← hN,← hE] at CW
  clear h ha hb hd hf h2 hnm hN hE
  go_enter Tryz.func70,Tryz.ntmps70
  go_wp2_with fail
  have I1:=z0g w (.cells #[.string ⟨nm.toArray⟩,.int .i64 d,.int .i64 a,.int .i64 b,.int .i32 m] 52)
  have H1:Hid (LAt (w.alloc (.cells #[.string ⟨nm.toArray⟩,.int .i64 d,.int .i64 a,.int .i64 b,.int .i32 m] 52)) c s):=HC.out.below ((Below.refl _ _).alloc (Nat.le_refl _) _)
  have G1 : Hid (Chg (· = c) w (w.alloc (.cells #[.string ⟨nm.toArray⟩, .int .i64 d, .int .i64 a, .int .i64 b, .int .i32 m] 52))) := (Chg.refl _ _).alloc _
  generalize w.alloc (.cells #[.string ⟨nm.toArray⟩,.int .i64 d,.int .i64 a,.int .i64 b,.int .i32 m] 52)=W1 at *
  generalize w.heap.size=bi at *
  have i0:=(z0a I1).1 0 (.string ⟨nm.toArray⟩) rfl
  have i3:=(z0a I1).1 3 (.int .i64 b) rfl
  have xb:=H1.out.x b HB.out
  go_quiet (fail)
  have H2:Hid (LAt (W1.drewN nq) c s):=H1.out.below (z1c W1 nq)
  have G2 : Hid (Chg (· = c) w (W1.drewN nq)) := G1.out.step (z1c W1 nq)
  have I2:=z0f I1 (z1c W1 nq)
  generalize W1.drewN nq=W2 at *
  clear H1 G1 I1 i0 i3 xb
  have i0:=(z0a I2).1 0 (.string ⟨nm.toArray⟩) rfl
  go_wp2_with fail
  refine (CS.out _).mono ?_
  rintro e w3 ⟨rfl,b3⟩
  have H3:Hid (LAt w3 c s):=H2.out.below b3
  have G3 : Hid (Chg (· = c) w w3) := G2.out.step b3
  have I3:=z0f I2 b3
  clear b3 CS H2 G2 I2 i0
  go_wp2_with fail
  have i2:=(z0a I3).1 2 (.int .i64 a) rfl
  have xa:=H3.out.x a HA.out
  go_quiet (first | (go_at_call 101;exact Calls.quiet_of_same (CW.out _)))
  have H4:Hid (LAt (w3.drewN nq) c s):=H3.out.below (z1c w3 nq)
  have G4 : Hid (Chg (· = c) w (w3.drewN nq)) := G3.out.step (z1c w3 nq)
  have I4:=z0f I3 (z1c w3 nq)
  generalize w3.drewN nq=W4 at *
  clear H3 G3 I3 i2 xa CW
  have i1:=(z0a I4).1 1 (.int .i64 d) rfl
  go_wp2_with fail
  refine (lset H4.out d HD.out _).mono ?_
  rintro e w6 ⟨rfl,h6,g6⟩
  have H6:Hid _:=h6
  have G6:Hid _:=G4.out.trans g6
  clear h6 g6 i1
  go_wp2
  go_end0
  exact⟨rfl,H6.out,G6.out⟩
theorem loperate_I {w : World} {c : Nat} {s : CS} (h : LAt w c s) (hf : ∀ i, U32 (s.f i)) (nm : List UInt8) (hnm : nm ∈ z1w) (h2 : (z1o nm).2 = 3) (pre post : List UInt8) (hs : nm = pre ++ 105 :: post) (hp : (105 : UInt8) ∉ pre) (hq : (105 : UInt8) ∉ post) (hl : pre.length ≤ 100) (hl2 : post.length ≤ 100) (d a b : Nat) (hd : d < 32) (ha : a < 32) (hb : b < 32) (m : Int) :
    Calls Tryz.prog 70 #[.pointer (some ⟨c, 0, none⟩), .agg #[.string ⟨nm.toArray⟩, .int .i64 d, .int .i64 a, .int .i64 b, .int .i32 m]] w fun e w' => e = .returned (.tuple #[]) ∧ LAt w' c (setL s d (opN (pre ++ post) (s.f a) (m % 4294967296))) ∧ Chg (· = c) w w' := by
  have ha0:(0:Int)≤(a:Int):=by omega
  have ha1:(a:Int)<32:=by omega
  have hb0:(0:Int)≤(b:Int):=by omega
  have hb1:(b:Int)<32:=by omega
  have HA:Hid _:=ha
  have HB:Hid _:=hb
  have HD:Hid _:=hd
  have HC:Hid _:=h
  have CS:Hid _:=z5e nm hnm
  rw[h2] at CS
  have fd:=fun w=>fldF (.int .i64 (z1o nm).1) (.int .i64 3) w
  generalize (z1o nm).1=kk at *
  have CR:Hid _:=cReplace pre post hp hq hl hl2
  rw[← hs] at CR
  have hmu:U32 (m%4294967296):=⟨by omega,by omega⟩
  have CW:Hid _:=wordOp ⟨(pre++post).toArray⟩ (s.f a) (m%4294967296) (hf a) hmu
  rw[nm_list] at CW
  obtain⟨N,hN⟩:∃ N,N=opN (pre++post) (s.f a) (m%4294967296):=⟨_,rfl⟩
  obtain⟨E,hE⟩:∃ E,E=opE (pre++post):=⟨_,rfl⟩
  rw[← hN]
  rw[← hN,← hE] at CW
  clear h ha hb hd hf h2 hnm hN hE hp hq hl hl2 hs hmu
  generalize hN2:pre++post=n2 at *
  clear hN2
  go_enter Tryz.func70,Tryz.ntmps70
  go_wp2_with fail
  have I1:=z0g w (.cells #[.string ⟨nm.toArray⟩,.int .i64 d,.int .i64 a,.int .i64 b,.int .i32 m] 52)
  have H1:Hid (LAt (w.alloc (.cells #[.string ⟨nm.toArray⟩,.int .i64 d,.int .i64 a,.int .i64 b,.int .i32 m] 52)) c s):=HC.out.below ((Below.refl _ _).alloc (Nat.le_refl _) _)
  have G1 : Hid (Chg (· = c) w (w.alloc (.cells #[.string ⟨nm.toArray⟩, .int .i64 d, .int .i64 a, .int .i64 b, .int .i32 m] 52))) := (Chg.refl _ _).alloc _
  generalize w.alloc (.cells #[.string ⟨nm.toArray⟩,.int .i64 d,.int .i64 a,.int .i64 b,.int .i32 m] 52)=W1 at *
  generalize w.heap.size=bi at *
  have i0:=(z0a I1).1 0 (.string ⟨nm.toArray⟩) rfl
  have i3:=(z0a I1).1 3 (.int .i64 b) rfl
  have xb:=H1.out.x b HB.out
  go_quiet (fail)
  have H2:Hid (LAt (W1.drewN nq) c s):=H1.out.below (z1c W1 nq)
  have G2 : Hid (Chg (· = c) w (W1.drewN nq)) := G1.out.step (z1c W1 nq)
  have I2:=z0f I1 (z1c W1 nq)
  generalize W1.drewN nq=W2 at *
  clear H1 G1 I1 i0 i3 xb
  have i0:=(z0a I2).1 0 (.string ⟨nm.toArray⟩) rfl
  go_wp2_with fail
  refine (CS.out _).mono ?_
  rintro e w3 ⟨rfl,b3⟩
  have H3:Hid (LAt w3 c s):=H2.out.below b3
  have G3 : Hid (Chg (· = c) w w3) := G2.out.step b3
  have I3:=z0f I2 b3
  clear b3 CS H2 G2 I2 i0
  go_wp2_with fail
  refine wp_region_noPanic ?_
  refine wp_region_held_drew (S:=fun w'=>w'.heap[bi]?=some (.cells #[.string ⟨nm.toArray⟩,.int .i64 d,.int .i64 a,.int .i64 b,.int .i32 m] 52)) (by kernel_rfl) I3 (fun hHeld=>?_)
  refine z0n 0 (some 23) (v:=?_) rfl rfl (by kernel_rfl) (by kernel_rfl) (by kernel_rfl) (fun _ _ _ h=>h) (Or.inl ⟨by rfl,?_⟩) (by assumption) ?_
  rotate_left
  · intro w hSw
    have q0:=(z0a hSw).1 0 (.string ⟨nm.toArray⟩) rfl
    have q4:=(z0a hSw).1 4 (.int .i32 m) rfl
    clear hSw
    go_simp
    try with_reducible rfl
  simp only[Act.put,List.setIfInBounds_toArray,List.set_cons_zero,List.set_cons_succ]
  refine z0n 1 (some 24) (v:=?_) rfl rfl (by kernel_rfl) (by kernel_rfl) (by kernel_rfl) (fun _ _ _ h=>h) (Or.inl ⟨by rfl,?_⟩) (by assumption) ?_
  rotate_left
  · intro w hSw
    have q0:=(z0a hSw).1 0 (.string ⟨nm.toArray⟩) rfl
    have q4:=(z0a hSw).1 4 (.int .i32 m) rfl
    clear hSw
    go_simp
    try with_reducible rfl
  simp only[Act.put,List.setIfInBounds_toArray,List.set_cons_zero,List.set_cons_succ]
  refine z0n 3 (some 26) (v:=?_) rfl rfl (by kernel_rfl) (by kernel_rfl) (by kernel_rfl) (fun _ _ _ h=>h) (Or.inl ⟨by rfl,?_⟩) (by assumption) ?_
  rotate_left
  · intro w hSw
    have q0:=(z0a hSw).1 0 (.string ⟨nm.toArray⟩) rfl
    have q4:=(z0a hSw).1 4 (.int .i32 m) rfl
    clear hSw
    go_simp
    try with_reducible rfl
  simp only[Act.put,List.setIfInBounds_toArray,List.set_cons_zero,List.set_cons_succ]
  refine z0n 4 (some 27) (v:=?_) rfl rfl (by kernel_rfl) (by kernel_rfl) (by kernel_rfl) (fun _ _ _ h=>h) (Or.inl ⟨by rfl,?_⟩) (by assumption) ?_
  rotate_left
  · intro w hSw
    have q0:=(z0a hSw).1 0 (.string ⟨nm.toArray⟩) rfl
    have q4:=(z0a hSw).1 4 (.int .i32 m) rfl
    clear hSw
    go_simp
    try with_reducible rfl
  simp only[Act.put,List.setIfInBounds_toArray,List.set_cons_zero,List.set_cons_succ]
  refine z0n 5 (some 28) (v:=?_) rfl rfl (by kernel_rfl) (by kernel_rfl) (by kernel_rfl) (fun _ _ _ h=>h) (Or.inl ⟨by rfl,?_⟩) (by assumption) ?_
  rotate_left
  · intro w hSw
    have q0:=(z0a hSw).1 0 (.string ⟨nm.toArray⟩) rfl
    have q4:=(z0a hSw).1 4 (.int .i32 m) rfl
    clear hSw
    go_simp
    try with_reducible rfl
  simp only[Act.put,List.setIfInBounds_toArray,List.set_cons_zero,List.set_cons_succ]
  refine z5q 2 (some 25) 100 #[.string ⟨nm.toArray⟩,.string ⟨#[105]⟩,.string ⟨#[]⟩,.int .i64 1] rfl rfl (by rfl) (by kernel_rfl) (by kernel_rfl) (Calls.mono (CR.out _) ?_)
  rintro e w5 ⟨rfl,b5⟩
  refine⟨_,rfl,z0f hHeld b5,fun hHeld=>?_⟩
  have H5:Hid (LAt w5 c s):=H3.out.drew.below b5
  have G5 : Hid (Chg (· = c) w w5) := G3.out.drew.step b5
  clear b5 CR H3 G3 I3
  simp only[Act.put,List.setIfInBounds_toArray,List.set_cons_zero,List.set_cons_succ]
  refine z0n 6 (some 4) (v:=?_) rfl rfl (by kernel_rfl) (by kernel_rfl) (by kernel_rfl) (fun _ _ _ h=>h) (Or.inl ⟨by rfl,?_⟩) (by assumption) ?_
  rotate_left
  · intro w hSw
    have q0:=(z0a hSw).1 0 (.string ⟨nm.toArray⟩) rfl
    have q4:=(z0a hSw).1 4 (.int .i32 m) rfl
    clear hSw
    go_simp
    try with_reducible rfl
  simp only[Act.put,List.setIfInBounds_toArray,List.set_cons_zero,List.set_cons_succ]
  refine z0n 7 (some 5) (v:=?_) rfl rfl (by kernel_rfl) (by kernel_rfl) (by kernel_rfl) (fun _ _ _ h=>h) (Or.inl ⟨by rfl,?_⟩) (by assumption) ?_
  rotate_left
  · intro w hSw
    have q0:=(z0a hSw).1 0 (.string ⟨nm.toArray⟩) rfl
    have q4:=(z0a hSw).1 4 (.int .i32 m) rfl
    clear hSw
    go_simp
    try with_reducible rfl
  simp only[Act.put,List.setIfInBounds_toArray,List.set_cons_zero,List.set_cons_succ]
  refine wpAnyH_done (by kernel_rfl) ?_ _
  refine NoPanic.normal ?_
  have I5:=hHeld
  clear hHeld
  go_wp2_with fail
  have i2:=(z0a I5).1 2 (.int .i64 a) rfl
  have xa:=H5.out.x a HA.out
  go_quiet (first | (go_at_call 101;exact Calls.quiet_of_same (CW.out _)))
  have H4:Hid (LAt (w5.drewN nq) c s):=H5.out.below (z1c w5 nq)
  have G4 : Hid (Chg (· = c) w (w5.drewN nq)) := G5.out.step (z1c w5 nq)
  have I4:=z0f I5 (z1c w5 nq)
  generalize w5.drewN nq=W4 at *
  clear H5 G5 I5 i2 xa CW
  have i1:=(z0a I4).1 1 (.int .i64 d) rfl
  go_wp2_with fail
  refine (lset H4.out d HD.out _).mono ?_
  rintro e w6 ⟨rfl,h6,g6⟩
  have H6:Hid _:=h6
  have G6:Hid _:=G4.out.trans g6
  clear h6 g6 i1
  go_wp2
  go_end0
  exact⟨rfl,H6.out,G6.out⟩
theorem i64_id {x:Int} (h0:-9223372036854775808≤x) (h1:x<9223372036854775808):IntKind.i64.wrap x=x:=by
 rw[IntKind.wrap_i64]
 omega
theorem ltell_none (c:Nat) (p x:Int) (h1:p≠1073741824) (h2:p≠1073741828) (h3:p≠1073741832) (h4:p≠1073741836) (h5:p≠1073741840) (w:World) :
  Calls Tryz.prog 104 #[.pointer (some ⟨c,0,none⟩),.int .u32 p,.int .u32 x] w fun e w'=>e=.returned (.bool false)∧w'=w:=by
 have b1:=beq_eq_false_iff_ne.2 h1
 have b2:=beq_eq_false_iff_ne.2 h2
 have b3:=beq_eq_false_iff_ne.2 h3
 have b4:=beq_eq_false_iff_ne.2 h4
 have b5:=beq_eq_false_iff_ne.2 h5
 clear h1 h2 h3 h4 h5
 go_enter Tryz.func104,Tryz.ntmps104
 go_wp2
 go_ret
 exact⟨rfl,rfl⟩
theorem ltell_task {w : World} {c : Nat} {s : CS} (h : LAt w c s) (x : Int) (hx : U32 x) :
    Calls Tryz.prog 104 #[.pointer (some ⟨c, 0, none⟩), .int .u32 1073741828, .int .u32 x] w fun e w' => e = .returned (.bool true) ∧ LAt w' c { s with task := x } ∧ Chg (· = c) w w' := by
  have cc:=h.cell 62 (by decide)
  have ff:=h.free 62
  have ee:z1a s 62=.int .i64 s.task:=rfl
  rw[ee] at cc
  have HP:Hid (LAt (w.setCell ⟨c,62,none⟩ (.int .i64 x)) c { s with task:=x }):=h.put 62 _ (fun j _=>lg_task s x j)
  obtain⟨x0,x1⟩:=hx
  clear h ee
  go_enter Tryz.func104,Tryz.ntmps104
  go_wp2
  go_ret
  exact⟨rfl,HP.out,(Chg.refl _ _).own _⟩
theorem ltell_kind {w : World} {c : Nat} {s : CS} (h : LAt w c s) (x : Int) (hx : U32 x) :
    Calls Tryz.prog 104 #[.pointer (some ⟨c, 0, none⟩), .int .u32 1073741832, .int .u32 x] w fun e w' => e = .returned (.bool true) ∧ LAt w' c { s with kind := x } ∧ Chg (· = c) w w' := by
  have cc:=h.cell 63 (by decide)
  have ff:=h.free 63
  have ee:z1a s 63=.int .i64 s.kind:=rfl
  rw[ee] at cc
  have HP:Hid (LAt (w.setCell ⟨c,63,none⟩ (.int .i64 x)) c { s with kind:=x }):=h.put 63 _ (fun j _=>lg_kind s x j)
  obtain⟨x0,x1⟩:=hx
  clear h ee
  go_enter Tryz.func104,Tryz.ntmps104
  go_wp2
  go_ret
  exact⟨rfl,HP.out,(Chg.refl _ _).own _⟩
theorem ltell_stop {w : World} {c : Nat} {s : CS} (h : LAt w c s) (x : Int) (hx : U32 x) :
    Calls Tryz.prog 104 #[.pointer (some ⟨c, 0, none⟩), .int .u32 1073741840, .int .u32 x] w fun e w' => e = .returned (.bool true) ∧ LAt w' c { s with stop := true } ∧ Chg (· = c) w w' := by
  have cc:=h.cell 69 (by decide)
  have ff:=h.free 69
  have ee:z1a s 69=.bool s.stop:=rfl
  rw[ee] at cc
  have HP:Hid (LAt (w.setCell ⟨c,69,none⟩ (.bool true)) c { s with stop:=true }):=h.put 69 _ (fun j hj=>lg_stop s true j hj)
  obtain⟨x0,x1⟩:=hx
  clear h ee
  go_enter Tryz.func104,Tryz.ntmps104
  go_wp2
  go_ret
  exact⟨rfl,HP.out,(Chg.refl _ _).own _⟩
theorem ltell_cmp {w : World} {c : Nat} {s : CS} (h : LAt w c s) (x : Int) (hx : U32 x) (ht : 0 ≤ s.t) (ht' : s.t ≤ 1152921504606846976) :
    Calls Tryz.prog 104 #[.pointer (some ⟨c, 0, none⟩), .int .u32 1073741824, .int .u32 x] w fun e w' => e = .returned (.bool true) ∧ LAt w' c { s with set := true, cmp := s.t + 2 + x } ∧ Chg (· = c) w w' := by
  have CC:Hid _:=fun w=>ccost (k:=6) (f:=3) (c:=2) (by decide) w
  have hmo:Tryz.prog.follows .mixedOrders=true:=by kernel_rfl
  have c59:=h.cell 59 (by decide)
  have f59:=h.free 59
  have e59:z1a s 59=.bool s.set:=rfl
  rw[e59] at c59
  have H1:Hid (LAt (w.setCell ⟨c,59,none⟩ (.bool true)) c { s with set:=true }):=h.put 59 _ (fun j _=>lg_set s true j)
  have G1 : Hid (Chg (· = c) w (w.setCell ⟨c, 59, none⟩ (.bool true))) := (Chg.refl _ _).own _
  obtain⟨x0,x1⟩:=hx
  have v1:wrap64 (s.t+2)=s.t+2:=z0y (by omega) (by omega)
  have v2:wrap64 (s.t+2+x)=s.t+2+x:=z0y (by omega) (by omega)
  have v3:wrap64 x=x:=z0y (by omega) (by omega)
  have w1:IntKind.i64.wrap (s.t+2)=s.t+2:=i64_id (by omega) (by omega)
  have w2:IntKind.i64.wrap (s.t+2+x)=s.t+2+x:=i64_id (by omega) (by omega)
  have w3:IntKind.i64.wrap x=x:=i64_id (by omega) (by omega)
  clear h e59 ht ht'
  go_enter Tryz.func104,Tryz.ntmps104
  go_wp2_with fail
  generalize w.setCell ⟨c,59,none⟩ (.bool true)=W1 at *
  clear c59 f59
  refine z1b 13 [] [.pointer (some ⟨c,0,none⟩),.pointer (some ⟨c,0,none⟩),.pointer (some ⟨c,0,none⟩),.pointer (some ⟨c,58,none⟩),.int .i64 s.t,.agg #[.int .i64 6,.int .i64 3],.int .i64 2,.int .i64 (s.t+2),.int .u32 x,.int .i64 x,.int .i64 (s.t+2+x),.pointer (some ⟨c,0,none⟩),.pointer (some ⟨c,60,none⟩)] hmo (by kernel_rfl) (by kernel_rfl) (by intro r hr;cases hr) ?_ (by intro r hr;cases hr) (by intro r hr;cases hr) ?_
  · generalize hl:lay _ _ _=af
    have e0:af.tmps[0]?.getD undef=.pointer (some ⟨c,0,none⟩):=by rw[← hl];kernel_rfl
    have e14:af.tmps[14]?.getD undef=.pointer (some ⟨c,0,none⟩):=by rw[← hl];kernel_rfl
    have e15:af.tmps[15]?.getD undef=.pointer (some ⟨c,0,none⟩):=by rw[← hl];kernel_rfl
    have e16:af.tmps[16]?.getD undef=.pointer (some ⟨c,58,none⟩):=by rw[← hl];kernel_rfl
    have e18:af.tmps[18]?.getD undef=.agg #[.int .i64 6,.int .i64 3]:=by rw[← hl];kernel_rfl
    have e17:af.tmps[17]?.getD undef=.int .i64 s.t:=by rw[← hl];kernel_rfl
    have e19:af.tmps[19]?.getD undef=.int .i64 2:=by rw[← hl];kernel_rfl
    have e2:af.tmps[2]?.getD undef=.int .u32 x:=by rw[← hl];kernel_rfl
    have e21:af.tmps[21]?.getD undef=.int .u32 x:=by rw[← hl];kernel_rfl
    have e20:af.tmps[20]?.getD undef=.int .i64 (s.t+2):=by rw[← hl];kernel_rfl
    have e22:af.tmps[22]?.getD undef=.int .i64 x:=by rw[← hl];kernel_rfl
    have e13:af.tmps[13]?.getD undef=.pointer (some ⟨c,0,none⟩):=by rw[← hl];kernel_rfl
    have e24:af.tmps[24]?.getD undef=.pointer (some ⟨c,0,none⟩):=by rw[← hl];kernel_rfl
    clear hl
    refine And.intro (fun w' hw=>z0d (by simp[execOp,go_sem,e0])) ?_
    refine And.intro (fun w' hw=>z0d (by simp[execOp,go_sem,e0])) ?_
    refine And.intro (fun w' hw=>z0d (by simp[execOp,go_sem,e14])) ?_
    refine And.intro (fun w' hw=>z0d (by simp[execOp,go_sem,e15])) ?_
    refine And.intro (fun w' hw=>by
      have c58:w'.cell? ⟨c,58,none⟩=some (.int .i64 s.t):=(H1.out.below hw).cell 58 (by decide)
      exact z0d (by simp[execOp,go_sem,e16,c58])) ?_
    refine And.intro (fun w' hw=>z0d (by simp[execOp,go_sem])) ?_
    refine And.intro (fun w' hw=>z1k 42 #[.agg #[.int .i64 6,.int .i64 3]] (by simp[go_sem,e18]) (CC.out _)) ?_
    refine And.intro (fun w' hw=>by
      exact z0d (by simp[execOp,go_sem,e17,e19,w1])) ?_
    refine And.intro (fun w' hw=>z0d (by simp[execOp,go_sem,e2])) ?_
    refine And.intro (fun w' hw=>by
      exact z0d (by simp[execOp,go_sem,e21,w3])) ?_
    refine And.intro (fun w' hw=>by
      exact z0d (by simp[execOp,go_sem,e20,e22,w2])) ?_
    refine And.intro (fun w' hw=>z0d (by simp[execOp,go_sem,e13])) ?_
    refine And.intro (fun w' hw=>z0d (by simp[execOp,go_sem,e24])) ?_
    exact True.intro
  · intro β3 W3 hW3 _ _
    have H3:Hid _:=H1.out.below hW3
    have G3:Hid _:=G1.out.step hW3
    clear hW3 H1 G1 CC
    have c60:=H3.out.cell 60 (by decide)
    have f60:=H3.out.free 60
    have e60:z1a { s with set:=true } 60=.int .i64 s.cmp:=rfl
    rw[e60] at c60
    have HP:Hid (LAt (W3.setCell ⟨c,60,none⟩ (.int .i64 (s.t+2+x))) c { s with set:=true,cmp:=s.t+2+x }):=H3.out.put 60 _ (fun j _=>lg_cmp { s with set:=true } _ j)
    clear e60 H3
    simp[z3o,lay,Act.put]
    go_wp2
    go_ret
    exact⟨rfl,HP.out,G3.out.own _⟩
end Go.Proofs.YtbmnmbkgdalkcaaGreatDoor
