/-
  Contracts of functions that the statement reaches, and what they are made of, callees first.
-/
import Derived.Deep.RegionLaw
import Derived.Test.YtbmnmbkgdalkcaaGreatDoorPza
import Derived.Test.YtbmnmbkgdalkcaaGreatDoorPzb
import Derived.Test.YtbmnmbkgdalkcaaGreatDoorPzc
import Derived.Test.YtbmnmbkgdalkcaaGreatDoorPzd
set_option maxRecDepth 100000
set_option maxHeartbeats 8000000
namespace Go.Proofs.YtbmnmbkgdalkcaaGreatDoor
open Go.RowKit
structure CS where
 m:Value
 f:Nat→Int
 u:Bool
 t:Int
 set:Bool
 cmp:Int
 la:Value
 came:Int
 lp:Int
 lat:Int
 lt:Int
 ev:Value
 task:Int
 kind:Int
 stop:Bool
def z0l (s:CS) (i:Nat):Value:=
 if i=0 then s.m else if i<58 then rv s.f s.u (i-1) else if i=58 then .int .i64 s.t else if i=59 then .bool s.set else if i=60 then .int .i64 s.cmp else if i=61 then s.la else if i=62 then .int .i64 s.came
 else if i=63 then .int .u32 s.lp else if i=64 then .int .u32 s.lat else if i=65 then .int .i64 s.lt else if i=66 then s.ev else if i=67 then .int .u32 s.task else if i=68 then .int .u32 s.kind else .bool s.stop
structure z0i (w:World) (c:Nat) (s:CS):Prop where
 is:w.heap[c]?=some (.cells (z3q 70 (z0l s)) 49)
theorem z0i.cell {w:World} {c:Nat} {s:CS} (h:z0i w c s) (i:Nat) (hi:i<70):w.cell? ⟨c,i,none⟩=some (z0l s i):=(z0a h.is).1 i _ (z6u _ _ i hi)
theorem z0i.free {w:World} {c:Nat} {s:CS} (h:z0i w c s) (i:Nat):w.frozen? ⟨c,i,none⟩=false:=(z0a h.is).2.1 i
theorem z0i.lt {w:World} {c:Nat} {s:CS} (h:z0i w c s):c<w.heap.size:=(z0a h.is).2.2
theorem z0i.below {w w':World} {c:Nat} {s:CS} (h:z0i w c s) (hb:Below w.heap.size w w'):z0i w' c s:=⟨z0f h.is hb⟩
theorem z0i.drew {w:World} {c:Nat} {s:CS} (h:z0i w c s):z0i w.drew c s:=⟨h.is⟩
theorem z0i.put {w:World} {c:Nat} {s s':CS} (h:z0i w c s) (i:Nat) (v:Value) (e:∀ j,j<70→z0l s' j=updC (z0l s) i v j):z0i (w.setCell ⟨c,i,none⟩ v) c s':=by
 refine⟨?_⟩
 rw[z1p v h.is,cellsN_put,z9c fun j hj=>(e j hj).symm]
theorem z8u (s:CS) (i:Nat) (hi:i<57) (h3:i≠33) (x:Int) (j:Nat):z0l { s with f:=set1 s.f i x } j=updC (z0l s) (i+1) (.int .u32 x) j:=by
 unfold updC
 by_cases h:j=i+1
 ·subst h
  rw[if_pos rfl]
  unfold z0l
  rw[if_neg (by omega),if_pos (by omega),Nat.add_sub_cancel]
  simp[rv,set1,h3]
 ·rw[if_neg h]
  unfold z0l
  by_cases h0:j=0
  ·rw[if_pos h0,if_pos h0]
  ·rw[if_neg h0,if_neg h0]
   by_cases h1:j<58
   ·rw[if_pos h1,if_pos h1]
    unfold rv
    by_cases h2:j-1=33
    ·rw[if_pos h2,if_pos h2]
    ·rw[if_neg h2,if_neg h2]
     show Value.int .u32 (set1 s.f i x (j-1))=_
     unfold set1
     rw[if_neg (by omega)]
   ·rw[if_neg h1,if_neg h1]
theorem cg_t (s:CS) (x:Int) (j:Nat):z0l { s with t:=x } j=updC (z0l s) 58 (.int .i64 x) j:=by
 unfold updC z0l
 by_cases h:j=58
 ·subst h;simp
 ·simp[h]
theorem cg_set (s:CS) (x:Bool) (j:Nat):z0l { s with set:=x } j=updC (z0l s) 59 (.bool x) j:=by
 unfold updC z0l
 by_cases h:j=59
 ·subst h;simp
 ·simp[h]
theorem cg_cmp (s:CS) (x:Int) (j:Nat):z0l { s with cmp:=x } j=updC (z0l s) 60 (.int .i64 x) j:=by
 unfold updC z0l
 by_cases h:j=60
 ·subst h;simp
 ·simp[h]
theorem cg_came (s:CS) (x:Int) (j:Nat):z0l { s with came:=x } j=updC (z0l s) 62 (.int .i64 x) j:=by
 unfold updC z0l
 by_cases h:j=62
 ·subst h;simp
 ·simp[h]
theorem cg_lat (s:CS) (x:Int) (j:Nat):z0l { s with lat:=x } j=updC (z0l s) 64 (.int .u32 x) j:=by
 unfold updC z0l
 by_cases h:j=64
 ·subst h;simp
 ·simp[h]
theorem cg_task (s:CS) (x:Int) (j:Nat):z0l { s with task:=x } j=updC (z0l s) 67 (.int .u32 x) j:=by
 unfold updC z0l
 by_cases h:j=67
 ·subst h;simp
 ·simp[h]
theorem cg_kind (s:CS) (x:Int) (j:Nat):z0l { s with kind:=x } j=updC (z0l s) 68 (.int .u32 x) j:=by
 unfold updC z0l
 by_cases h:j=68
 ·subst h;simp
 ·simp[h]
theorem cg_ev (s:CS) (x:Value) (j:Nat):z0l { s with ev:=x } j=updC (z0l s) 66 x j:=by
 unfold updC z0l
 by_cases h:j=66
 ·subst h;simp
 ·simp[h]
theorem cg_stop (s:CS) (x:Bool) (j:Nat) (hj:j<70):z0l { s with stop:=x } j=updC (z0l s) 69 (.bool x) j:=by
 unfold updC z0l
 by_cases h:j=69
 ·subst h;simp
 ·rw[if_neg h]
  rcases (by omega:j<58∨j=58∨j=59∨j=60∨j=61∨j=62∨j=63∨j=64∨j=65∨j=66∨j=67∨j=68) with h1 | h1 | h1 | h1 | h1 | h1 | h1 | h1 | h1 | h1 | h1 | h1
  ·by_cases h0:j=0
   ·rw[if_pos h0,if_pos h0]
   ·rw[if_neg h0,if_neg h0,if_pos h1,if_pos h1]
  all_goals (subst h1;rfl)
theorem cg_regs (s:CS) (f:Nat→Int) (u:Bool) (j:Nat):z0l { s with f:=f,u:=u } j=splC (z0l s) 1 (z0c f u).toList j:=by
 unfold splC
 have hl:(z0c f u).toList.length=57:=by rw[Array.length_toList,z0b]
 by_cases h:1≤j∧j<1+(z0c f u).toList.length
 ·rw[if_pos h]
  rw[hl] at h
  have e:(z0c f u).toList.getD (j-1) undef=rv f u (j-1):=by
   rw[List.getD_eq_getElem?_getD,Array.getElem?_toList,z2d _ _ _ (by omega)]
   rfl
  rw[e]
  unfold z0l
  rw[if_neg (by omega),if_pos (by omega)]
 ·rw[if_neg h]
  rw[hl] at h
  unfold z0l
  by_cases h0:j=0
  ·rw[if_pos h0,if_pos h0]
  ·have h1:¬j<58:=by omega
   rw[if_neg h0,if_neg h0,if_neg h1,if_neg h1]
theorem z0i.regs {w:World} {c:Nat} {s:CS} (h:z0i w c s):w.rangeAt c 1 (z0c s.f s.u).toList:=by
 have hl:(z0c s.f s.u).toList.length=57:=by rw[Array.length_toList,z0b]
 refine z7a h.is 1 _ (by rw[hl];decide) fun j v hv=>?_
 have hj:j<57:=by have:=(List.getElem?_eq_some_iff.1 hv).1;rwa [hl] at this
 rw[Array.getElem?_toList,z2d _ _ _ hj,Option.some.injEq] at hv
 rw[← hv]
 unfold z0l
 rw[if_neg (by omega),if_pos (by omega),Nat.add_sub_cancel_left]
theorem z0i.regsIn {w:World} {c:Nat} {s:CS} (h:z0i w c s) (f:Nat→Int) (u:Bool):z0i (w.setCells c 1 (z0c f u).toList) c { s with f:=f,u:=u }:=by
 refine⟨?_⟩
 rw[z5v _ 1 _ _ h.is,z9c fun j _=>(cg_regs s f u j).symm]
theorem z0i.there {w:World} {c:Nat} {s:CS} (h:z0i w c s):w.there c 1 57:=cellsN_there h.is 1 57 (by decide)
theorem z4l {w : World} {c : Nat} {s : CS} (h : z0i w c s) (pc k : Int) (ht : 0 ≤ s.t) (ht' : s.t ≤ 1152921504606846976) (hk : 0 ≤ k) (hk' : k ≤ 1152921504606846976) :
    Calls Tryz.prog 52 #[.pointer (some ⟨c, 0, none⟩), .int .u32 pc, .int .i64 k] w fun e w' => e = .returned (.tuple #[]) ∧ z0i w' c { s with f := set1 s.f 32 pc, t := s.t + k } ∧ Chg (· = c) w w' := by
  have HC:Hid (z0i w c s):=h
  have c33:=h.cell 33 (by decide)
  have c58:=h.cell 58 (by decide)
  have f33:=h.free 33
  have f58:=h.free 58
  have e33:z0l s 33=.int .u32 (s.f 32):=rfl
  have e58:z0l s 58=.int .i64 s.t:=rfl
  rw[e33] at c33
  rw[e58] at c58
  clear h e33 e58
  have v1:wrap64 (s.t+k)=s.t+k:=z0y (by omega) (by omega)
  generalize hst:s.t=st at *
  generalize s.f 32=q at *
  clear ht ht' hk hk'
  go_enter Tryz.func52,Tryz.ntmps52
  go_wp2
  go_end0
  subst hst
  exact⟨rfl,(HC.out.put (s':={ s with f:=set1 s.f 32 pc }) 33 _ (fun j _=>z8u s 32 (by decide) (by decide) pc j)).put 58 _ (fun j _=>cg_t { s with f:=set1 s.f 32 pc } _ j),((Chg.refl _ _).own _).own _⟩
theorem z5u {w : World} {c : Nat} {s : CS} (h : z0i w c s) (b : Bool) (m : Int) (ht : 0 ≤ s.t) (ht' : s.t ≤ 1152921504606846976) :
    Calls Tryz.prog 53 #[.pointer (some ⟨c, 0, none⟩), .bool b, .int .u32 m] w fun e w' => e = .returned (.tuple #[]) ∧ z0i w' c { s with f := set1 s.f 32 ((s.f 32 + (if b then m else 4)) % 4294967296), t := s.t + 2 } ∧ Chg (· = c) w w' := by
  have c33:=h.cell 33 (by decide)
  have e33:z0l s 33=.int .u32 (s.f 32):=rfl
  rw[e33] at c33
  have CN:Hid _:=fun pc=>z4l h pc 2 ht ht' (by decide) (by decide)
  clear h e33 ht ht'
  generalize hq:s.f 32=q at *
  cases b
  · go_enter Tryz.func53,Tryz.ntmps53
    go_wp2_with fail
    refine (CN.out _).mono ?_
    rintro e w1 ⟨rfl,h1,g1⟩
    have H1:Hid _:=h1
    have G1:Hid _:=g1
    clear h1 g1
    go_wp2
    go_end0
    exact⟨rfl,H1.out,G1.out⟩
  · go_enter Tryz.func53,Tryz.ntmps53
    go_wp2_with fail
    refine (CN.out _).mono ?_
    rintro e w1 ⟨rfl,h1,g1⟩
    have H1:Hid _:=h1
    have G1:Hid _:=g1
    clear h1 g1
    go_wp2
    go_end0
    exact⟨rfl,H1.out,G1.out⟩
theorem z3l {w : World} {c : Nat} {s : CS} (h : z0i w c s) (hf : ∀ i, U32 (s.f i)) (cs v : Int) (ht : 0 ≤ s.t) (ht' : s.t ≤ 1152921504606846976) :
    Calls Tryz.prog 47 #[.pointer (some ⟨c, 0, none⟩), .int .u32 cs, .int .u32 v] w fun e w' => e = .returned (.tuple #[]) ∧ z0i w' c { s with f := z5i s.f s.u cs v, u := false, t := s.t + 4 } ∧ Chg (· = c) w w' := by
  have HC:Hid (z0i w c s):=h
  have CT:Hid _:=rTrap s.f s.u cs v hf
  obtain⟨fs,hfs⟩:=z3f
  have HS:Hid _:=hfs
  have v1:Hid (wrap64 (s.t+4)=s.t+4):=z0y (by omega) (by omega)
  clear h hf hfs ht ht'
  generalize z5i s.f s.u cs v=F at *
  go_enter Tryz.func47,Tryz.ntmps47
  go_wp2_with (first | (refine z0w (by rfl) 32 (.tmp 9) rfl c 1 rfl (z0c s.f s.u) _ HC.out.regs HS.out rfl (by rw[z0b];exact z0o) ?_))
  refine (CT.out _).mono ?_
  rintro e w1 ⟨rfl,b1⟩
  have H1:Hid (z0i w1 c s):=HC.out.below b1
  have H2:Hid (z0i (w1.setCells c 1 (z0c F false).toList) c { s with f:=F,u:=false }):=H1.out.regsIn _ _
  have G2 : Hid (Chg (· = c) w (w1.setCells c 1 (z0c F false).toList)) := ((Chg.refl _ w).step b1).owns _
  clear b1 HC CT
  rename_i K1 hK1 K2 hK2
  refine hK2 _ _ ?_
  refine z3b ?_ (some 14) rfl (by rfl) ?_ ?_
  rotate_left
  · go_simp
    try with_reducible rfl
  simp only[Act.put,List.setIfInBounds_toArray,List.set_cons_zero,List.set_cons_succ]
  refine z3b ?_ (some 15) rfl (by rfl) ?_ ?_
  rotate_left
  · go_simp
    try with_reducible rfl
  simp only[Act.put,List.setIfInBounds_toArray,List.set_cons_zero,List.set_cons_succ]
  refine z1v rfl 32 (.tmp 15) (.tmp 13) rfl c 1 (z0c F false) rfl rfl (by rw[z0b];exact H1.out.there) (by rw[z0b];exact z0o) (z0s _ _) ?_
  intro W2 e2
  rw[← e2] at H2 G2
  clear e2 H1
  have c58:=H2.out.cell 58 (by decide)
  have f58:=H2.out.free 58
  have e58:z0l { s with f:=F,u:=false } 58=.int .i64 s.t:=rfl
  rw[e58] at c58
  have v1:=v1.out
  clear e58
  go_wp2
  go_end0
  exact⟨rfl,H2.out.put 58 _ (fun j _=>cg_t { s with f:=F,u:=false } _ j),G2.out.own _⟩
def dueV (s:CS):Bool:=s.set&&decide (s.cmp≤s.t)
theorem mdue {w:World} {c:Nat} {s:CS} (h:z0i w c s) :
  Calls Tryz.prog 28 #[.pointer (some ⟨c,0,none⟩)] w fun e w'=>e=.returned (.bool (dueV s))∧Below w.heap.size w w':=by
 have c58:=h.cell 58 (by decide)
 have c59:=h.cell 59 (by decide)
 have c60:=h.cell 60 (by decide)
 have e58:z0l s 58=.int .i64 s.t:=rfl
 have e59:z0l s 59=.bool s.set:=rfl
 have e60:z0l s 60=.int .i64 s.cmp:=rfl
 rw[e58] at c58
 rw[e59] at c59
 rw[e60] at c60
 clear h e58 e59 e60
 unfold dueV
 generalize s.t=t at *
 generalize s.cmp=k at *
 generalize s.set=b at *
 cases b
 ·go_enter Tryz.func28,Tryz.ntmps28
  go_wp2_with fail
  go_region
  go_wp2
  go_ret
  exact⟨rfl,(Below.refl _ _).drew⟩
 ·go_enter Tryz.func28,Tryz.ntmps28
  go_wp2_with fail
  go_region
  go_wp2
  go_ret
  exact⟨rfl,(Below.refl _ _).drew⟩
def z1j (s:CS) (c v:Int):CS:={ s with f:=z5i s.f s.u c v,u:=false,t:=s.t+4 }
def z2k (s:CS) (pc k:Int):CS:={ s with f:=set1 s.f 32 pc,t:=s.t+k }
def gw (f:Nat→Int) (i:Nat):Int:=f (41+i)
def z5m (s:CS) (p n how:Int):Bool:=!s.u||z2m (ofV (gw s.f)) p n how
def z3m (s:CS) (l:List Int) (rd:Nat) (p n:Int) (sg:Bool):CS:=
 if askV l.length p n=4 then z1j { s with lat:=p } 4 p
 else if askV l.length p n≠0∨z5m s p n 0=false then z1j { s with lat:=p } 5 p
 else z2k { s with lat:=p,f:=set1 s.f rd (z1l l p n sg) } ((s.f 32+4)%4294967296) 2
theorem z1x {w:World} {c:Nat} {s:CS} (h:z0i w c s):w.rangeAt c 42 (z2n (gw s.f)).toList:=by
 have hl:(z2n (gw s.f)).toList.length=16:=by rw[Array.length_toList,z1r]
 refine z7a h.is 42 _ (by rw[hl];decide) fun j v hv=>?_
 have hj:j<16:=by have:=(List.getElem?_eq_some_iff.1 hv).1;rwa [hl] at this
 rw[Array.getElem?_toList,z8w _ _ hj,Option.some.injEq] at hv
 rw[← hv]
 unfold z0l
 rw[if_neg (by omega),if_pos (by omega)]
 unfold rv gw
 rw[if_neg (by omega),show 42+j-1=41+j by omega]
theorem z8q {ws:Nat→Int} (h:∀ i,U32 (ws i)):∀ r∈ofV ws,RgU r:=by
 intro r hr
 unfold ofV at hr
 obtain⟨i,_,rfl⟩:=List.mem_map.1 hr
 have h1:=h (2*i)
 have h2:=h (2*i+1)
 unfold U32 at h1 h2
 refine⟨⟨?_,?_⟩,⟨?_,?_⟩⟩ <;> simp only[z7c] <;> omega
structure z3x (w:World) (c:Nat) (s:CS) (bm cap:Nat) (l:List Int):Prop where
 m:s.m=.slice (some ⟨bm,0,none⟩) l.length cap
 mem:∀ i,i<l.length→w.cell? ⟨bm,i,none⟩=some (.int .u32 (z0p l i))
 free:∀ i,w.frozen? ⟨bm,i,none⟩=false
 lt:bm<w.heap.size
 ne:bm≠c
 u:∀ i,U32 (z0p l i)
 len:l.length≤1000000000
theorem z3x.on {w w' : World} {c : Nat} {s s' : CS} {bm cap : Nat} {l : List Int} (h : z3x w c s bm cap l) (hc : Chg (· = c) w w') (hm : s'.m = s.m) : z3x w' c s' bm cap l := by
  have hb:=hc.block bm h.lt h.ne
  exact⟨hm.trans h.m,fun i hi=>by rw[World.cell?_of_block hb];exact h.mem i hi,fun i=>by have:=h.free i;simp only[World.frozen?,hb] at this ⊢;exact this,Nat.lt_of_lt_of_le h.lt hc.size,h.ne,h.u,h.len⟩
theorem dload {w : World} {c : Nat} {s : CS} {bm cap : Nat} {l : List Int} (h : z0i w c s) (hm : z3x w c s bm cap l) (hf : ∀ i, U32 (s.f i)) (ht : 0 ≤ s.t) (ht' : s.t ≤ 1152921504606846976) (rd : Nat) (hrd : rd < 32) (p n : Int) (hp : U32 p) (hn : n = 1 ∨ n = 2 ∨ n = 4) (sg : Bool) :
    Calls Tryz.prog 55 #[.pointer (some ⟨c, 0, none⟩), .int .i64 rd, .int .u32 p, .int .i64 n, .bool sg] w fun e w' => e = .returned (.tuple #[]) ∧ z0i w' c (z3m s l rd p n sg) ∧ Chg (· = c) w w' := by
  have c64:=h.cell 64 (by decide)
  have f64:=h.free 64
  have e64:z0l s 64=.int .u32 s.lat:=rfl
  rw[e64] at c64
  have H1:Hid (z0i (w.setCell ⟨c,64,none⟩ (.int .u32 p)) c { s with lat:=p }):=h.put 64 _ (fun j _=>cg_lat s p j)
  have G1 : Hid (Chg (· = c) w (w.setCell ⟨c, 64, none⟩ (.int .u32 p))) := (Chg.refl _ _).own _
  have M1:Hid (z3x (w.setCell ⟨c,64,none⟩ (.int .u32 p)) c { s with lat:=p } bm cap l):=hm.on G1.out rfl
  have HF:Hid _:=hf
  have HT:Hid _:=ht
  have HT':Hid _:=ht'
  have HP:Hid _:=hp
  have hu32:Hid (IntKind.u32.wrap n=n):=by show _=_;rw[IntKind.wrap_u32'];omega
  have c0:=h.cell 0 (by decide)
  have e0:z0l s 0=.slice (some ⟨bm,0,none⟩) l.length cap:=hm.m
  rw[e0] at c0
  have CL:Hid _:=z6p bm l.length cap l p n sg hm.len hp hm.u (w.setCell ⟨c,64,none⟩ (.int .u32 p)) M1.out.mem M1.out.lt
  have HN:Hid (U32 n):=⟨by omega,by omega⟩
  clear e64 e0 hf ht ht' hp h hm
  have HV:Hid (z3m s l rd p n sg=if askV l.length p n=4 then z1j { s with lat:=p } 4 p
    else if askV l.length p n≠0∨z5m s p n 0=false then z1j { s with lat:=p } 5 p
    else z2k { s with lat:=p,f:=set1 s.f rd (z1l l p n sg) } ((s.f 32+4)%4294967296) 2):=rfl
  generalize z3m s l rd p n sg=S' at *
  go_enter Tryz.func55,Tryz.ntmps55
  go_wp2_with fail
  refine Calls.mono CL.out ?_
  rintro e w2 ⟨rfl,b2⟩
  have H2:Hid (z0i w2 c { s with lat:=p }):=H1.out.below b2
  have G2 : Hid (Chg (· = c) w w2) := G1.out.step b2
  clear b2 CL H1 G1 c64 f64 c0
  have HL:Hid (askV l.length p n=0→z2r l.length l p n sg=z1l l p n sg):=fun e=>by unfold z2r;rw[if_pos e]
  generalize z2r l.length l p n sg=N at *
  generalize askV l.length p n=E at *
  have H3:Hid (z0i (w2.alloc (.cells #[.int .u32 N,.int .i64 E] 81)) c { s with lat:=p }):=H2.out.below ((Below.refl _ _).alloc (Nat.le_refl _) _)
  have G3 : Hid (Chg (· = c) w (w2.alloc (.cells #[.int .u32 N, .int .i64 E] 81))) := G2.out.alloc _
  by_cases e4:E=4
  · have e:=HV.out
    rw[if_pos e4] at e
    have HE:Hid _:=e
    subst e4
    clear e HV HL
    have CF:Hid _:=z3l H3.out HF.out 4 p HT.out HT'.out
    go_wp2_with fail
    refine Calls.mono CF.out ?_
    rintro e w4 ⟨rfl,h4,g4⟩
    have H4:Hid _:=h4
    have G4:Hid _:=G3.out.trans g4
    clear h4 g4 CF
    go_wp2
    refine bodyPost_ret (results_none rfl _ _ _) rfl ?_
    exact⟨rfl,by rw[HE.out];exact H4.out,G4.out⟩
  · have b4:(E==4)=false:=by simpa using e4
    have e:=HV.out
    rw[if_neg e4] at e
    have HV:Hid _:=e
    clear e
    by_cases e0:E=0
    · subst e0
      have hN:=HL.out rfl
      subst hN
      clear HL e4 b4
      have c34:=H3.out.cell 34 (by decide)
      have e34:z0l { s with lat:=p } 34=.bool s.u:=rfl
      rw[e34] at c34
      have cr:=H3.out.cell (rd+1) (by omega)
      have er:z0l { s with lat:=p } (rd+1)=.int .u32 (s.f rd):=by
        unfold z0l
        rw[if_neg (by omega),if_pos (by omega)]
        unfold rv
        rw[if_neg (by omega),Nat.add_sub_cancel]
      rw[er,Nat.add_comm] at cr
      have fr:=H3.out.free (1+rd)
      have r0:(0:Int)≤(rd:Int):=by omega
      have r1:(rd:Int)<32:=by omega
      clear e34 er
      -- what is done where it may be
      have GO:Hid (∀ W,z0i W c { s with lat:=p }→z0i ((W.setCell ⟨c,1+rd,none⟩ (.int .u32 (z1l l p n sg))).drew) c { s with lat:=p,f:=set1 s.f rd (z1l l p n sg) }):=fun W hW=>by
        rw[Nat.add_comm]
        exact (hW.put (rd+1) _ (fun j _=>z8u { s with lat:=p } rd (by omega) (by omega) _ j)).drew
      generalize z1l l p n sg=V at *
      cases hsu:s.u
      · rw[hsu] at c34
        have HE:Hid (S'=z2k { s with lat:=p,f:=set1 s.f rd V } ((s.f 32+4)%4294967296) 2):=by have:=HV.out;rw[if_neg (by unfold z5m;rw[hsu];simp)] at this;exact this
        clear HV
        go_wp2_with fail
        go_region
        have H6:Hid _:=GO.out _ H3.out
        have G6 : Hid (Chg (· = c) w (((w2.alloc (.cells #[.int .u32 V, .int .i64 0] 81)).setCell ⟨c, 1 + rd, none⟩ (.int .u32 V)).drew)) := (G3.out.own _).drew
        generalize ((w2.alloc (.cells #[.int .u32 V,.int .i64 0] 81)).setCell ⟨c,1+rd,none⟩ (.int .u32 V)).drew=W6 at *
        have c33:=H6.out.cell 33 (by decide)
        have e33:z0l { s with lat:=p,f:=set1 s.f rd V } 33=.int .u32 (s.f 32):=by
          show Value.int .u32 (set1 s.f rd V 32)=_
          unfold set1
          rw[if_neg (by omega)]
        rw[e33] at c33
        have CN:Hid _:=fun pc=>z4l H6.out pc 2 HT.out HT'.out (by decide) (by decide)
        clear e33 H6
        generalize s.f 32=q at *
        go_wp2_with fail
        refine (CN.out _).mono ?_
        rintro e w7 ⟨rfl,h7,g7⟩
        have H7:Hid _:=h7
        have G7:Hid _:=G6.out.trans g7
        clear h7 g7 CN G6
        go_wp2
        go_end0
        exact⟨rfl,by rw[HE.out];exact H7.out,G7.out⟩
      · rw[hsu] at c34
        have HG:Hid (∀ i,U32 (gw s.f i)):=fun i=>HF.out _
        have RG:=z1x H3.out
        have RG:Hid _:=RG
        go_wp2_with (first | (refine z0w (by rfl) 30 (.tmp 43) rfl c 42 rfl (z2n (gw s.f)) _ RG.out z7e rfl (by rw[z1r];exact z4r) ?_))
        refine (rOf _ HG.out _).mono ?_
        rintro e w4 ⟨g,cg,rfl,-,-,hcg,hreg,b4⟩
        have H4:Hid _:=H3.out.below b4
        have G4:Hid _:=G3.out.step b4
        have RR:Hid _:=hreg
        have kg:Hid (∀ b ob,(w2.alloc (.cells #[.int .u32 V,.int .i64 0] 81)).heap[b]?=some ob→w4.heap[b]?=some ob):=fun b ob h=>z0f h b4
        have d0:=kg.out _ _ (z0g w2 _)
        have D0:Hid _:=d0
        have uw:=hu32.out
        clear hreg b4 hcg H3 G3 c34 cr fr RG d0 kg
        go_wp2_with fail
        refine (z6a RR.out (z8q HG.out) 8 cg rfl (by decide) p n 0 HP.out HN.out).mono ?_
        rintro e w5 ⟨rfl,b5⟩
        have H5:Hid _:=H4.out.below b5
        have G5:Hid _:=G4.out.step b5
        have d0:=z0f D0.out b5
        obtain⟨dc,df,ds⟩:=z0a d0
        have g0:=dc 0 (.int .u32 V) rfl
        have g1:=dc 1 (.int .i64 0) rfl
        clear b5 H4 G4 D0 d0 dc df uw RR
        cases hav:z2m (ofV (gw s.f)) p n 0
        · have HE:Hid (S'=z1j { s with lat:=p } 5 p):=by have:=HV.out;rw[if_pos (Or.inr (by unfold z5m;rw[hsu,hav];rfl))] at this;exact this
          have CF:Hid _:=z3l H5.out HF.out 5 p HT.out HT'.out
          clear HV
          go_wp2_with fail
          refine Calls.mono CF.out ?_
          rintro e w6 ⟨rfl,h6,g6⟩
          have H6:Hid _:=h6
          have G6:Hid _:=G5.out.trans g6
          clear h6 g6 CF
          go_wp2
          refine bodyPost_ret (results_none rfl _ _ _) rfl ?_
          exact⟨rfl,by rw[HE.out];exact H6.out,G6.out⟩
        · have HE:Hid (S'=z2k { s with lat:=p,f:=set1 s.f rd V } ((s.f 32+4)%4294967296) 2):=by have:=HV.out;rw[if_neg (by unfold z5m;rw[hsu,hav];simp)] at this;exact this
          have cr:=H5.out.cell (rd+1) (by omega)
          have er:z0l { s with lat:=p } (rd+1)=.int .u32 (s.f rd):=by
            unfold z0l
            rw[if_neg (by omega),if_pos (by omega)]
            unfold rv
            rw[if_neg (by omega),Nat.add_sub_cancel]
          rw[er,Nat.add_comm] at cr
          have fr:=H5.out.free (1+rd)
          clear HV er
          go_wp2_with fail
          go_region
          have H6:Hid _:=GO.out _ H5.out
          have G6 : Hid (Chg (· = c) w ((w5.setCell ⟨c, 1 + rd, none⟩ (.int .u32 V)).drew)) := (G5.out.own _).drew
          generalize (w5.setCell ⟨c,1+rd,none⟩ (.int .u32 V)).drew=W6 at *
          have c33:=H6.out.cell 33 (by decide)
          have e33:z0l { s with lat:=p,f:=set1 s.f rd V } 33=.int .u32 (s.f 32):=by
            show Value.int .u32 (set1 s.f rd V 32)=_
            unfold set1
            rw[if_neg (by omega)]
          rw[e33] at c33
          have CN:Hid _:=fun pc=>z4l H6.out pc 2 HT.out HT'.out (by decide) (by decide)
          clear e33 H6
          generalize s.f 32=q at *
          go_wp2_with fail
          refine (CN.out _).mono ?_
          rintro e w7 ⟨rfl,h7,g7⟩
          have H7:Hid _:=h7
          have G7:Hid _:=G6.out.trans g7
          clear h7 g7 CN G6
          go_wp2
          go_end0
          exact⟨rfl,by rw[HE.out];exact H7.out,G7.out⟩
    · have HE:Hid (S'=z1j { s with lat:=p } 5 p):=by have:=HV.out;rw[if_pos (Or.inl e0)] at this;exact this
      have b0:(E != 0)=true:=by simpa using e0
      clear HV HL e0 e4
      have CF:Hid _:=z3l H3.out HF.out 5 p HT.out HT'.out
      go_wp2_with fail
      refine Calls.mono CF.out ?_
      rintro e w4 ⟨rfl,h4,g4⟩
      have H4:Hid _:=h4
      have G4:Hid _:=G3.out.trans g4
      clear h4 g4 CF
      go_wp2
      refine bodyPost_ret (results_none rfl _ _ _) rfl ?_
      exact⟨rfl,by rw[HE.out];exact H4.out,G4.out⟩
def onS (s:CS):CS:=z2k s ((s.f 32+4)%4294967296) 2
structure StoreIn (w:World) (c:Nat) (s:CS) (p:Int):Prop where
  c64:w.cell? ⟨c,64,none⟩=some (.int .u32 s.lat)
  f64:w.frozen? ⟨c,64,none⟩=false
  core:z0i (w.setCell ⟨c,64,none⟩ (.int .u32 p)) c { s with lat:=p }
  chg : Chg (· = c) w (w.setCell ⟨c, 64, none⟩ (.int .u32 p))
theorem z4c {w:World} {c:Nat} {s:CS} (h:z0i w c s) (p:Int):StoreIn w c s p:=
 ⟨h.cell 64 (by decide),h.free 64,h.put 64 _ (fun j _=>cg_lat s p j),(Chg.refl _ _).own _⟩
theorem mstore_odd {w : World} {c : Nat} {s : CS} (h : z0i w c s) (hf : ∀ i, U32 (s.f i)) (ht : 0 ≤ s.t) (ht' : s.t ≤ 1152921504606846976) (p n x : Int) (hp : U32 p) (hn : n = 1 ∨ n = 2 ∨ n = 4) (ho : p % n ≠ 0) :
    Calls Tryz.prog 56 #[.pointer (some ⟨c, 0, none⟩), .int .u32 p, .int .i64 n, .int .u32 x] w fun e w' => e = .returned (.tuple #[]) ∧ z0i w' c (z1j { s with lat := p } 6 p) ∧ Chg (· = c) w w' := by
  obtain⟨c64,f64,H1,G1⟩:=z4c h p
  have H1:Hid _:=H1
  have G1:Hid _:=G1
  have HT:Hid _:=ht
  have HT':Hid _:=ht'
  have HF:Hid _:=hf
  have T1:p.tmod n=p%n:=Int.tmod_eq_emod_of_nonneg hp.1
  have w1:wrap64 p=p:=z0y (by have:=hp.1;omega) (by have:=hp.2;omega)
  have n0:¬n=0:=by omega
  have b0:(p%n != 0)=true:=by simpa using ho
  have CF:Hid _:=z3l H1.out HF.out 6 p HT.out HT'.out
  generalize p%n=r at *
  clear h hf ht ht' hp hn ho
  go_enter Tryz.func56,Tryz.ntmps56
  go_wp2_with fail
  refine Calls.mono CF.out ?_
  rintro e w2 ⟨rfl,h2,g2⟩
  have H2:Hid _:=h2
  have G2:Hid _:=G1.out.trans g2
  clear h2 g2 CF
  go_wp2
  refine bodyPost_ret (results_none rfl _ _ _) rfl ?_
  exact⟨rfl,H2.out,G2.out⟩
theorem mstore_cmp {w : World} {c : Nat} {s : CS} (h : z0i w c s) (hf : ∀ i, U32 (s.f i)) (ht : 0 ≤ s.t) (ht' : s.t ≤ 1152921504606846976) (x : Int) (hx : U32 x) (hu : s.u = false) :
    Calls Tryz.prog 56 #[.pointer (some ⟨c, 0, none⟩), .int .u32 1073741824, .int .i64 4, .int .u32 x] w fun e w' => e = .returned (.tuple #[]) ∧ z0i w' c (onS { s with lat := 1073741824, set := true, cmp := s.t + 2 + x }) ∧ Chg (· = c) w w' := by
  obtain⟨c64,f64,H1,G1⟩:=z4c h 1073741824
  have H1:Hid _:=H1
  have G1:Hid _:=G1
  have HT:Hid _:=ht
  have HT':Hid _:=ht'
  have HF:Hid _:=hf
  have c34:=h.cell 34 (by decide)
  have e34:z0l s 34=.bool s.u:=rfl
  rw[e34,hu] at c34
  have c33:=h.cell 33 (by decide)
  have e33:z0l s 33=.int .u32 (s.f 32):=rfl
  rw[e33] at c33
  have c58:=h.cell 58 (by decide)
  have e58:z0l s 58=.int .i64 s.t:=rfl
  rw[e58] at c58
  have f58:=h.free 58
  have c59:=h.cell 59 (by decide)
  have e59:z0l s 59=.bool s.set:=rfl
  rw[e59] at c59
  have f59:=h.free 59
  have c60:=h.cell 60 (by decide)
  have e60:z0l s 60=.int .i64 s.cmp:=rfl
  rw[e60] at c60
  have f60:=h.free 60
  have a1:wrap64 (s.t+2)=s.t+2:=z0y (by omega) (by omega)
  have a2:wrap64 x=x:=z0y (by have:=hx.1;omega) (by have:=hx.2;omega)
  have a3:wrap64 (s.t+2+x)=s.t+2+x:=z0y (by have:=hx.1;omega) (by have:=hx.2;omega)
  have H2:Hid (z0i (((w.setCell ⟨c,64,none⟩ (.int .u32 1073741824)).setCell ⟨c,59,none⟩ (.bool true)).setCell ⟨c,60,none⟩ (.int .i64 (s.t+2+x))) c { s with lat:=1073741824,set:=true,cmp:=s.t+2+x }):=((H1.out.put (s':={ s with lat:=1073741824,set:=true }) 59 _ (fun j _=>cg_set { s with lat:=1073741824 } true j)).put (s':={ s with lat:=1073741824,set:=true,cmp:=(s.t+2+x) }) 60 _ (fun j _=>cg_cmp { s with lat:=1073741824,set:=true } (s.t+2+x) j))
  have G2 : Hid (Chg (· = c) w (((w.setCell ⟨c, 64, none⟩ (.int .u32 1073741824)).setCell ⟨c, 59, none⟩ (.bool true)).setCell ⟨c, 60, none⟩ (.int .i64 (s.t + 2 + x)))) := ((G1.out.own _).own _)
  have CN:Hid _:=fun pc=>z4l H2.out pc 2 HT.out HT'.out (by decide) (by decide)
  clear h hf ht ht' hx hu H1 G1 e33 e34 e58 e59 e60
  generalize hq:s.f 32=q at *
  have HQ:Hid _:=hq
  clear hq
  go_enter Tryz.func56,Tryz.ntmps56
  go_wp2_with fail
  refine (CN.out _).mono ?_
  rintro e w2 ⟨rfl,h2,g2⟩
  have H3:Hid _:=h2
  have G3:Hid _:=G2.out.trans g2
  clear h2 g2 CN
  go_wp2
  refine bodyPost_ret (results_none rfl _ _ _) rfl ?_
  refine⟨rfl,?_,G3.out⟩
  unfold onS z2k
  rw[show ({ s with lat:=1073741824,set:=true,cmp:=s.t+2+x }:CS).f 32=q from HQ.out]
  exact H3.out
theorem mstore_task {w : World} {c : Nat} {s : CS} (h : z0i w c s) (hf : ∀ i, U32 (s.f i)) (ht : 0 ≤ s.t) (ht' : s.t ≤ 1152921504606846976) (x : Int) (hu : s.u = false) :
    Calls Tryz.prog 56 #[.pointer (some ⟨c, 0, none⟩), .int .u32 1073741828, .int .i64 4, .int .u32 x] w fun e w' => e = .returned (.tuple #[]) ∧ z0i w' c (onS { s with lat := 1073741828, task := x }) ∧ Chg (· = c) w w' := by
  obtain⟨c64,f64,H1,G1⟩:=z4c h 1073741828
  have H1:Hid _:=H1
  have G1:Hid _:=G1
  have HT:Hid _:=ht
  have HT':Hid _:=ht'
  have HF:Hid _:=hf
  have c34:=h.cell 34 (by decide)
  have e34:z0l s 34=.bool s.u:=rfl
  rw[e34,hu] at c34
  have c33:=h.cell 33 (by decide)
  have e33:z0l s 33=.int .u32 (s.f 32):=rfl
  rw[e33] at c33
  have c67:=h.cell 67 (by decide)
  have e67:z0l s 67=.int .u32 s.task:=rfl
  rw[e67] at c67
  have f67:=h.free 67
  have H2:Hid (z0i ((w.setCell ⟨c,64,none⟩ (.int .u32 1073741828)).setCell ⟨c,67,none⟩ (.int .u32 x)) c { s with lat:=1073741828,task:=x }):=(H1.out.put (s':={ s with lat:=1073741828,task:=x }) 67 _ (fun j _=>cg_task { s with lat:=1073741828 } x j))
  have G2 : Hid (Chg (· = c) w ((w.setCell ⟨c, 64, none⟩ (.int .u32 1073741828)).setCell ⟨c, 67, none⟩ (.int .u32 x))) := (G1.out.own _)
  have CN:Hid _:=fun pc=>z4l H2.out pc 2 HT.out HT'.out (by decide) (by decide)
  clear h hf ht ht' hu H1 G1 e33 e34 e67
  generalize hq:s.f 32=q at *
  have HQ:Hid _:=hq
  clear hq
  go_enter Tryz.func56,Tryz.ntmps56
  go_wp2_with fail
  refine (CN.out _).mono ?_
  rintro e w2 ⟨rfl,h2,g2⟩
  have H3:Hid _:=h2
  have G3:Hid _:=G2.out.trans g2
  clear h2 g2 CN
  go_wp2
  refine bodyPost_ret (results_none rfl _ _ _) rfl ?_
  refine⟨rfl,?_,G3.out⟩
  unfold onS z2k
  rw[show ({ s with lat:=1073741828,task:=x }:CS).f 32=q from HQ.out]
  exact H3.out
theorem mstore_kind {w : World} {c : Nat} {s : CS} (h : z0i w c s) (hf : ∀ i, U32 (s.f i)) (ht : 0 ≤ s.t) (ht' : s.t ≤ 1152921504606846976) (x : Int) (hu : s.u = false) :
    Calls Tryz.prog 56 #[.pointer (some ⟨c, 0, none⟩), .int .u32 1073741832, .int .i64 4, .int .u32 x] w fun e w' => e = .returned (.tuple #[]) ∧ z0i w' c (onS { s with lat := 1073741832, kind := x }) ∧ Chg (· = c) w w' := by
  obtain⟨c64,f64,H1,G1⟩:=z4c h 1073741832
  have H1:Hid _:=H1
  have G1:Hid _:=G1
  have HT:Hid _:=ht
  have HT':Hid _:=ht'
  have HF:Hid _:=hf
  have c34:=h.cell 34 (by decide)
  have e34:z0l s 34=.bool s.u:=rfl
  rw[e34,hu] at c34
  have c33:=h.cell 33 (by decide)
  have e33:z0l s 33=.int .u32 (s.f 32):=rfl
  rw[e33] at c33
  have c68:=h.cell 68 (by decide)
  have e68:z0l s 68=.int .u32 s.kind:=rfl
  rw[e68] at c68
  have f68:=h.free 68
  have H2:Hid (z0i ((w.setCell ⟨c,64,none⟩ (.int .u32 1073741832)).setCell ⟨c,68,none⟩ (.int .u32 x)) c { s with lat:=1073741832,kind:=x }):=(H1.out.put (s':={ s with lat:=1073741832,kind:=x }) 68 _ (fun j _=>cg_kind { s with lat:=1073741832 } x j))
  have G2 : Hid (Chg (· = c) w ((w.setCell ⟨c, 64, none⟩ (.int .u32 1073741832)).setCell ⟨c, 68, none⟩ (.int .u32 x))) := (G1.out.own _)
  have CN:Hid _:=fun pc=>z4l H2.out pc 2 HT.out HT'.out (by decide) (by decide)
  clear h hf ht ht' hu H1 G1 e33 e34 e68
  generalize hq:s.f 32=q at *
  have HQ:Hid _:=hq
  clear hq
  go_enter Tryz.func56,Tryz.ntmps56
  go_wp2_with fail
  refine (CN.out _).mono ?_
  rintro e w2 ⟨rfl,h2,g2⟩
  have H3:Hid _:=h2
  have G3:Hid _:=G2.out.trans g2
  clear h2 g2 CN
  go_wp2
  refine bodyPost_ret (results_none rfl _ _ _) rfl ?_
  refine⟨rfl,?_,G3.out⟩
  unfold onS z2k
  rw[show ({ s with lat:=1073741832,kind:=x }:CS).f 32=q from HQ.out]
  exact H3.out
theorem mstore_stop {w : World} {c : Nat} {s : CS} (h : z0i w c s) (hf : ∀ i, U32 (s.f i)) (ht : 0 ≤ s.t) (ht' : s.t ≤ 1152921504606846976) (x : Int) (hu : s.u = false) :
    Calls Tryz.prog 56 #[.pointer (some ⟨c, 0, none⟩), .int .u32 1073741840, .int .i64 4, .int .u32 x] w fun e w' => e = .returned (.tuple #[]) ∧ z0i w' c (onS { s with lat := 1073741840, stop := true }) ∧ Chg (· = c) w w' := by
  obtain⟨c64,f64,H1,G1⟩:=z4c h 1073741840
  have H1:Hid _:=H1
  have G1:Hid _:=G1
  have HT:Hid _:=ht
  have HT':Hid _:=ht'
  have HF:Hid _:=hf
  have c34:=h.cell 34 (by decide)
  have e34:z0l s 34=.bool s.u:=rfl
  rw[e34,hu] at c34
  have c33:=h.cell 33 (by decide)
  have e33:z0l s 33=.int .u32 (s.f 32):=rfl
  rw[e33] at c33
  have c69:=h.cell 69 (by decide)
  have e69:z0l s 69=.bool s.stop:=rfl
  rw[e69] at c69
  have f69:=h.free 69
  have H2:Hid (z0i ((w.setCell ⟨c,64,none⟩ (.int .u32 1073741840)).setCell ⟨c,69,none⟩ (.bool true)) c { s with lat:=1073741840,stop:=true }):=(H1.out.put (s':={ s with lat:=1073741840,stop:=true }) 69 _ (fun j hj=>cg_stop { s with lat:=1073741840 } true j hj))
  have G2 : Hid (Chg (· = c) w ((w.setCell ⟨c, 64, none⟩ (.int .u32 1073741840)).setCell ⟨c, 69, none⟩ (.bool true))) := (G1.out.own _)
  have CN:Hid _:=fun pc=>z4l H2.out pc 2 HT.out HT'.out (by decide) (by decide)
  clear h hf ht ht' hu H1 G1 e33 e34 e69
  generalize hq:s.f 32=q at *
  have HQ:Hid _:=hq
  clear hq
  go_enter Tryz.func56,Tryz.ntmps56
  go_wp2_with fail
  refine (CN.out _).mono ?_
  rintro e w2 ⟨rfl,h2,g2⟩
  have H3:Hid _:=h2
  have G3:Hid _:=G2.out.trans g2
  clear h2 g2 CN
  go_wp2
  refine bodyPost_ret (results_none rfl _ _ _) rfl ?_
  refine⟨rfl,?_,G3.out⟩
  unfold onS z2k
  rw[show ({ s with lat:=1073741840,stop:=true }:CS).f 32=q from HQ.out]
  exact H3.out
theorem z2u {l:List Int} {i:Nat} {x:Int} (h:i<l.length):z0p (l.set i x) i=x:=by
 unfold z0p
 rw[List.getD_eq_getElem?_getD,List.getElem?_set_self h]
 rfl
theorem z2q {l:List Int} {i j:Nat} {x:Int} (h:j≠i):z0p (l.set j x) i=z0p l i:=by
 unfold z0p
 rw[List.getD_eq_getElem?_getD,List.getD_eq_getElem?_getD,List.getElem?_set_ne h]
theorem mstore_no {w : World} {c : Nat} {s : CS} {bm cap : Nat} {l : List Int} (h : z0i w c s) (hm : z3x w c s bm cap l) (hf : ∀ i, U32 (s.f i)) (ht : 0 ≤ s.t) (ht' : s.t ≤ 1152921504606846976) (p n x : Int) (hp : U32 p) (hn : n = 1 ∨ n = 2 ∨ n = 4) (hx : U32 x) (ho : p % n = 0) (hu : s.u = true) (hal : z2m (ofV (gw s.f)) p n 1 = false)  :
    Calls Tryz.prog 56 #[.pointer (some ⟨c, 0, none⟩), .int .u32 p, .int .i64 n, .int .u32 x] w fun e w' => e = .returned (.tuple #[]) ∧ z0i w' c (z1j { s with lat := p } 7 p) ∧ Chg (· = c) w w' := by
  obtain⟨c64,f64,H1,G1⟩:=z4c h p
  have H1:Hid _:=H1
  have G1:Hid _:=G1
  have HT:Hid _:=ht
  have HT':Hid _:=ht'
  have HF:Hid _:=hf
  have HP:Hid (U32 p):=hp
  have HX:Hid (U32 x):=hx
  have T1:p.tmod n=0:=by rw[Int.tmod_eq_emod_of_nonneg hp.1];exact ho
  have w1:wrap64 p=p:=z0y (by have:=hp.1;omega) (by have:=hp.2;omega)
  have n0:¬n=0:=by omega
  have hu32:Hid (IntKind.u32.wrap n=n):=by show _=_;rw[IntKind.wrap_u32'];omega
  have HN:Hid (U32 n):=⟨by omega,by omega⟩
  have c34:=h.cell 34 (by decide)
  have e34:z0l s 34=.bool s.u:=rfl
  rw[e34,hu] at c34
  have c33:=h.cell 33 (by decide)
  have e33:z0l s 33=.int .u32 (s.f 32):=rfl
  rw[e33] at c33
  have c0:=h.cell 0 (by decide)
  have e0:z0l s 0=.slice (some ⟨bm,0,none⟩) l.length cap:=hm.m
  rw[e0] at c0
  have M1:Hid (z3x (w.setCell ⟨c,64,none⟩ (.int .u32 p)) c { s with lat:=p } bm cap l):=hm.on G1.out rfl
  generalize hS':z1j { s with lat:=p } 7 p=S' at *
  have HS':Hid _:=hS'
  clear hS'
  have RG:Hid _:=z1x H1.out
  have HG:Hid (∀ i,U32 (gw s.f i)):=fun i=>HF.out _
  clear h hf ht ht' hp hn hx ho hu e34 e33 e0 hm
  go_enter Tryz.func56,Tryz.ntmps56
  go_wp2_with (first | (refine z0w (by rfl) 30 (.tmp 137) rfl c 42 rfl (z2n (gw s.f)) _ RG.out z7e rfl (by rw[z1r];exact z4r) ?_))
  refine (rOf _ HG.out _).mono ?_
  rintro e w4 ⟨g,cg,rfl,-,-,hcg,hreg,b4⟩
  have H4:Hid _:=H1.out.below b4
  have G4:Hid _:=G1.out.step b4
  have M4:Hid (z3x w4 c { s with lat:=p } bm cap l):=M1.out.on (Chg.of b4) rfl
  have RR:Hid _:=hreg
  have uw:=hu32.out
  clear hreg b4 hcg H1 G1 M1 c34 c33 c0 RG c64 f64
  go_wp2_with fail
  refine (z6a RR.out (z8q HG.out) 8 cg rfl (by decide) p n 1 HP.out HN.out).mono ?_
  rintro e w5 ⟨rfl,b5⟩
  have H5:Hid _:=H4.out.below b5
  have G5:Hid _:=G4.out.step b5
  have M5:Hid (z3x w5 c { s with lat:=p } bm cap l):=M4.out.on (Chg.of b5) rfl
  clear b5 H4 G4 M4 uw RR
  rw[hal]
  have CF:Hid _:=z3l H5.out HF.out 7 p HT.out HT'.out
  go_wp2_with fail
  refine Calls.mono CF.out ?_
  rintro e w6 ⟨rfl,h6,g6⟩
  have H6:Hid _:=h6
  have G6:Hid _:=G5.out.trans g6
  clear h6 g6 CF
  go_wp2
  refine bodyPost_ret (results_none rfl _ _ _) rfl ?_
  exact⟨rfl,by rw[← HS'.out];exact H6.out,G6.out⟩
theorem mstore_user_out {w : World} {c : Nat} {s : CS} {bm cap : Nat} {l : List Int} (h : z0i w c s) (hm : z3x w c s bm cap l) (hf : ∀ i, U32 (s.f i)) (ht : 0 ≤ s.t) (ht' : s.t ≤ 1152921504606846976) (p n x : Int) (hp : U32 p) (hn : n = 1 ∨ n = 2 ∨ n = 4) (hx : U32 x) (ho : p % n = 0) (hu : s.u = true) (hal : z2m (ofV (gw s.f)) p n 1 = true) (ha : askV l.length p n = 2) :
    Calls Tryz.prog 56 #[.pointer (some ⟨c, 0, none⟩), .int .u32 p, .int .i64 n, .int .u32 x] w fun e w' => e = .returned (.tuple #[]) ∧ z0i w' c (z1j { s with lat := p } 7 p) ∧ Chg (· = c) w w' := by
  obtain⟨c64,f64,H1,G1⟩:=z4c h p
  have H1:Hid _:=H1
  have G1:Hid _:=G1
  have HT:Hid _:=ht
  have HT':Hid _:=ht'
  have HF:Hid _:=hf
  have HP:Hid (U32 p):=hp
  have HX:Hid (U32 x):=hx
  have T1:p.tmod n=0:=by rw[Int.tmod_eq_emod_of_nonneg hp.1];exact ho
  have w1:wrap64 p=p:=z0y (by have:=hp.1;omega) (by have:=hp.2;omega)
  have n0:¬n=0:=by omega
  have hu32:Hid (IntKind.u32.wrap n=n):=by show _=_;rw[IntKind.wrap_u32'];omega
  have HN:Hid (U32 n):=⟨by omega,by omega⟩
  have c34:=h.cell 34 (by decide)
  have e34:z0l s 34=.bool s.u:=rfl
  rw[e34,hu] at c34
  have c33:=h.cell 33 (by decide)
  have e33:z0l s 33=.int .u32 (s.f 32):=rfl
  rw[e33] at c33
  have c0:=h.cell 0 (by decide)
  have e0:z0l s 0=.slice (some ⟨bm,0,none⟩) l.length cap:=hm.m
  rw[e0] at c0
  have M1:Hid (z3x (w.setCell ⟨c,64,none⟩ (.int .u32 p)) c { s with lat:=p } bm cap l):=hm.on G1.out rfl
  generalize hS':z1j { s with lat:=p } 7 p=S' at *
  have HS':Hid _:=hS'
  clear hS'
  have RG:Hid _:=z1x H1.out
  have HG:Hid (∀ i,U32 (gw s.f i)):=fun i=>HF.out _
  clear h hf ht ht' hp hn hx ho hu e34 e33 e0 hm
  go_enter Tryz.func56,Tryz.ntmps56
  go_wp2_with (first | (refine z0w (by rfl) 30 (.tmp 137) rfl c 42 rfl (z2n (gw s.f)) _ RG.out z7e rfl (by rw[z1r];exact z4r) ?_))
  refine (rOf _ HG.out _).mono ?_
  rintro e w4 ⟨g,cg,rfl,-,-,hcg,hreg,b4⟩
  have H4:Hid _:=H1.out.below b4
  have G4:Hid _:=G1.out.step b4
  have M4:Hid (z3x w4 c { s with lat:=p } bm cap l):=M1.out.on (Chg.of b4) rfl
  have RR:Hid _:=hreg
  have uw:=hu32.out
  clear hreg b4 hcg H1 G1 M1 c34 c33 c0 RG c64 f64
  go_wp2_with fail
  refine (z6a RR.out (z8q HG.out) 8 cg rfl (by decide) p n 1 HP.out HN.out).mono ?_
  rintro e w5 ⟨rfl,b5⟩
  have H5:Hid _:=H4.out.below b5
  have G5:Hid _:=G4.out.step b5
  have M5:Hid (z3x w5 c { s with lat:=p } bm cap l):=M4.out.on (Chg.of b5) rfl
  clear b5 H4 G4 M4 uw RR
  rw[hal]
  have c0:=H5.out.cell 0 (by decide)
  have e0:z0l { s with lat:=p } 0=.slice (some ⟨bm,0,none⟩) l.length cap:=M5.out.m
  rw[e0] at c0
  have c33:=H5.out.cell 33 (by decide)
  have e33:z0l { s with lat:=p } 33=.int .u32 (s.f 32):=rfl
  rw[e33] at c33
  clear e0 e33
  have CS:Hid _:=rStore bm l.length cap l p n x M5.out.len HP.out HX.out M5.out.u w5 M5.out.mem M5.out.free
  rw[ha] at CS
  go_wp2_with fail
  refine Calls.mono CS.out ?_
  rintro e w6 ⟨rfl,hw6⟩
  unfold z8l at hw6
  clear CS
  rw[if_neg (by rw[ha];decide)] at hw6
  subst hw6
  have CF:Hid _:=z3l H5.out HF.out 7 p HT.out HT'.out
  go_wp2_with fail
  refine Calls.mono CF.out ?_
  rintro e w6 ⟨rfl,h6,g6⟩
  have H6:Hid _:=h6
  have G6:Hid _:=G5.out.trans g6
  clear h6 g6 CF
  go_wp2
  refine bodyPost_ret (results_none rfl _ _ _) rfl ?_
  exact⟨rfl,by rw[← HS'.out];exact H6.out,G6.out⟩
theorem mstore_user_in {w:World} {c:Nat} {s:CS} {bm cap:Nat} {l:List Int} (h:z0i w c s) (hm:z3x w c s bm cap l) (hf:∀ i,U32 (s.f i)) (ht:0≤s.t) (ht':s.t≤1152921504606846976) (p n x:Int) (hp:U32 p) (hn:n=1∨n=2∨n=4) (hx:U32 x) (ho:p%n=0) (hu:s.u=true) (hal:z2m (ofV (gw s.f)) p n 1=true) (ha:askV l.length p n=0) :
  Calls Tryz.prog 56 #[.pointer (some ⟨c,0,none⟩),.int .u32 p,.int .i64 n,.int .u32 x] w fun e w'=>e=.returned (.tuple #[])∧z0i w' c (onS { s with lat:=p })∧z3x w' c (onS { s with lat:=p }) bm cap (l.set (p/4).toNat (z3h (z0p l (p/4).toNat) p n x))∧Chg (fun k=>k=c∨k=bm) w w':=by
 obtain⟨c64,f64,H1,G1⟩:=z4c h p
 have H1:Hid _:=H1
 have G1:Hid _:=G1
 have HT:Hid _:=ht
 have HT':Hid _:=ht'
 have HF:Hid _:=hf
 have HP:Hid (U32 p):=hp
 have HX:Hid (U32 x):=hx
 have T1:p.tmod n=0:=by rw[Int.tmod_eq_emod_of_nonneg hp.1];exact ho
 have w1:wrap64 p=p:=z0y (by have:=hp.1;omega) (by have:=hp.2;omega)
 have n0:¬n=0:=by omega
 have hu32:Hid (IntKind.u32.wrap n=n):=by show _=_;rw[IntKind.wrap_u32'];omega
 have HN:Hid (U32 n):=⟨by omega,by omega⟩
 have c34:=h.cell 34 (by decide)
 have e34:z0l s 34=.bool s.u:=rfl
 rw[e34,hu] at c34
 have c33:=h.cell 33 (by decide)
 have e33:z0l s 33=.int .u32 (s.f 32):=rfl
 rw[e33] at c33
 have c0:=h.cell 0 (by decide)
 have e0:z0l s 0=.slice (some ⟨bm,0,none⟩) l.length cap:=hm.m
 rw[e0] at c0
 have M1:Hid (z3x (w.setCell ⟨c,64,none⟩ (.int .u32 p)) c { s with lat:=p } bm cap l):=hm.on G1.out rfl
 have RG:Hid _:=z1x H1.out
 have HG:Hid (∀ i,U32 (gw s.f i)):=fun i=>HF.out _
 clear h hf ht ht' hp hn hx ho hu e34 e33 e0 hm
 go_enter Tryz.func56,Tryz.ntmps56
 go_wp2_with (first | (refine z0w (by rfl) 30 (.tmp 137) rfl c 42 rfl (z2n (gw s.f)) _ RG.out z7e rfl (by rw[z1r];exact z4r) ?_))
 refine (rOf _ HG.out _).mono ?_
 rintro e w4 ⟨g,cg,rfl,-,-,hcg,hreg,b4⟩
 have H4:Hid _:=H1.out.below b4
 have G4:Hid _:=G1.out.step b4
 have M4:Hid (z3x w4 c { s with lat:=p } bm cap l):=M1.out.on (Chg.of b4) rfl
 have RR:Hid _:=hreg
 have uw:=hu32.out
 clear hreg b4 hcg H1 G1 M1 c34 c33 c0 RG c64 f64
 go_wp2_with fail
 refine (z6a RR.out (z8q HG.out) 8 cg rfl (by decide) p n 1 HP.out HN.out).mono ?_
 rintro e w5 ⟨rfl,b5⟩
 have H5:Hid _:=H4.out.below b5
 have G5:Hid _:=G4.out.step b5
 have M5:Hid (z3x w5 c { s with lat:=p } bm cap l):=M4.out.on (Chg.of b5) rfl
 clear b5 H4 G4 M4 uw RR
 rw[hal]
 have c0:=H5.out.cell 0 (by decide)
 have e0:z0l { s with lat:=p } 0=.slice (some ⟨bm,0,none⟩) l.length cap:=M5.out.m
 rw[e0] at c0
 have c33:=H5.out.cell 33 (by decide)
 have e33:z0l { s with lat:=p } 33=.int .u32 (s.f 32):=rfl
 rw[e33] at c33
 clear e0 e33
 have CS:Hid _:=rStore bm l.length cap l p n x M5.out.len HP.out HX.out M5.out.u w5 M5.out.mem M5.out.free
 rw[ha] at CS
 go_wp2_with fail
 refine Calls.mono CS.out ?_
 rintro e w6 ⟨rfl,hw6⟩
 unfold z8l at hw6
 clear CS
 rw[if_pos ha] at hw6
 have nb:bm≠c:=M5.out.ne
 have hbk:w6.heap[c]?=w5.heap[c]?:=by rw[hw6];exact Below.heap_setCell _ _ _ _ (Ne.symm nb)
 have H6:Hid (z0i w6 c { s with lat:=p }):=⟨hbk.trans H5.out.is⟩
 have G6:Hid (Chg (fun k=>k=c∨k=bm) w w6):=by
  rw[hw6]
  exact (G5.out.mono (O':=fun k=>k=c∨k=bm) fun k _ e=>Or.inl e).set (O:=fun k=>k=c∨k=bm) (Or.inr rfl) _
 have M6:Hid (z3x w6 c { s with lat:=p } bm cap (l.set (p/4).toNat (z3h (z0p l (p/4).toNat) p n x))):=by
  have hlen:(p/4).toNat<l.length:=by
   have:=z8a ha
   have:=HP.out.1
   omega
  refine⟨by rw[List.length_set];exact M5.out.m,fun i hi=>?_,fun i=>?_,by rw[hw6];simpa [World.setCell] using M5.out.lt,nb,fun i=>?_,by rw[List.length_set];exact M5.out.len⟩
  ·rw[List.length_set] at hi
   by_cases e:i=(p/4).toNat
   ·have:=M5.out.mem i hi
    subst e
    rw[hw6,z2u hlen]
    simp[go_sem,this]
   ·rw[hw6,z2q (Ne.symm e),← M5.out.mem i hi]
    simp[go_sem]
  ·have:=M5.out.free i
   rw[hw6]
   simp[go_sem,this]
  ·by_cases e:i=(p/4).toNat
   ·subst e
    rw[z2u hlen]
    exact z1t _ _ _
   ·rw[z2q (Ne.symm e)]
    exact M5.out.u i
 have c33:=H6.out.cell 33 (by decide)
 have e33:z0l { s with lat:=p } 33=.int .u32 (s.f 32):=rfl
 rw[e33] at c33
 have CN:Hid _:=fun pc=>z4l H6.out pc 2 HT.out HT'.out (by decide) (by decide)
 clear e33 hw6 hbk H5 G5 M5
 generalize hq:s.f 32=q at *
 have HQ:Hid _:=hq
 clear hq
 go_wp2_with fail
 refine (CN.out _).mono ?_
 rintro e w7 ⟨rfl,h7,g7⟩
 have H7:Hid _:=h7
 have M7:Hid (z3x w7 c (onS { s with lat:=p }) bm cap (l.set (p/4).toNat (z3h (z0p l (p/4).toNat) p n x))):=M6.out.on g7 rfl
 have G7:Hid _:=G6.out.trans (g7.mono (O':=fun k=>k=c∨k=bm) fun k _ e=>Or.inl e)
 clear h7 g7 CN
 go_wp2
 go_end0
 refine⟨rfl,?_,M7.out,G7.out⟩
 unfold onS z2k
 rw[show ({ s with lat:=p }:CS).f 32=q from HQ.out]
 exact H7.out
theorem mstore_part_out {w : World} {c : Nat} {s : CS} {bm cap : Nat} {l : List Int} (h : z0i w c s) (hm : z3x w c s bm cap l) (hf : ∀ i, U32 (s.f i)) (ht : 0 ≤ s.t) (ht' : s.t ≤ 1152921504606846976) (p n x : Int) (hp : U32 p) (hn : n = 1 ∨ n = 2 ∨ n = 4) (hx : U32 x) (ho : p % n = 0) (hu : s.u = false) (h4 : n ≠ 4) (ha : askV l.length p n = 2) :
    Calls Tryz.prog 56 #[.pointer (some ⟨c, 0, none⟩), .int .u32 p, .int .i64 n, .int .u32 x] w fun e w' => e = .returned (.tuple #[]) ∧ z0i w' c (z1j { s with lat := p } 7 p) ∧ Chg (· = c) w w' := by
  obtain⟨c64,f64,H1,G1⟩:=z4c h p
  have H1:Hid _:=H1
  have G1:Hid _:=G1
  have HT:Hid _:=ht
  have HT':Hid _:=ht'
  have HF:Hid _:=hf
  have HP:Hid (U32 p):=hp
  have HX:Hid (U32 x):=hx
  have T1:p.tmod n=0:=by rw[Int.tmod_eq_emod_of_nonneg hp.1];exact ho
  have w1:wrap64 p=p:=z0y (by have:=hp.1;omega) (by have:=hp.2;omega)
  have n0:¬n=0:=by omega
  have hu32:Hid (IntKind.u32.wrap n=n):=by show _=_;rw[IntKind.wrap_u32'];omega
  have HN:Hid (U32 n):=⟨by omega,by omega⟩
  have c34:=h.cell 34 (by decide)
  have e34:z0l s 34=.bool s.u:=rfl
  rw[e34,hu] at c34
  have c33:=h.cell 33 (by decide)
  have e33:z0l s 33=.int .u32 (s.f 32):=rfl
  rw[e33] at c33
  have c0:=h.cell 0 (by decide)
  have e0:z0l s 0=.slice (some ⟨bm,0,none⟩) l.length cap:=hm.m
  rw[e0] at c0
  have M1:Hid (z3x (w.setCell ⟨c,64,none⟩ (.int .u32 p)) c { s with lat:=p } bm cap l):=hm.on G1.out rfl
  have m4:(n==4)=false:=by simpa using h4
  clear h4
  generalize hS':z1j { s with lat:=p } 7 p=S' at *
  have HS':Hid _:=hS'
  clear hS'
  have H5:Hid _:=H1.out
  have G5:Hid _:=G1.out
  have M5:Hid _:=M1.out
  clear h hf ht ht' hp hn hx ho hu e34 e33 e0 hm H1 G1 M1
  go_enter Tryz.func56,Tryz.ntmps56
  have CS:Hid _:=rStore bm l.length cap l p n x M5.out.len HP.out HX.out M5.out.u (w.setCell ⟨c,64,none⟩ (.int .u32 p)) M5.out.mem M5.out.free
  rw[ha] at CS
  go_wp2_with fail
  refine Calls.mono CS.out ?_
  rintro e w6 ⟨rfl,hw6⟩
  unfold z8l at hw6
  clear CS
  rw[if_neg (by rw[ha];decide)] at hw6
  subst hw6
  have CF:Hid _:=z3l H5.out HF.out 7 p HT.out HT'.out
  go_wp2_with fail
  refine Calls.mono CF.out ?_
  rintro e w6 ⟨rfl,h6,g6⟩
  have H6:Hid _:=h6
  have G6:Hid _:=G5.out.trans g6
  clear h6 g6 CF
  go_wp2
  refine bodyPost_ret (results_none rfl _ _ _) rfl ?_
  exact⟨rfl,by rw[← HS'.out];exact H6.out,G6.out⟩
theorem mstore_part_in {w:World} {c:Nat} {s:CS} {bm cap:Nat} {l:List Int} (h:z0i w c s) (hm:z3x w c s bm cap l) (hf:∀ i,U32 (s.f i)) (ht:0≤s.t) (ht':s.t≤1152921504606846976) (p n x:Int) (hp:U32 p) (hn:n=1∨n=2∨n=4) (hx:U32 x) (ho:p%n=0) (hu:s.u=false) (h4:n≠4) (ha:askV l.length p n=0) :
  Calls Tryz.prog 56 #[.pointer (some ⟨c,0,none⟩),.int .u32 p,.int .i64 n,.int .u32 x] w fun e w'=>e=.returned (.tuple #[])∧z0i w' c (onS { s with lat:=p })∧z3x w' c (onS { s with lat:=p }) bm cap (l.set (p/4).toNat (z3h (z0p l (p/4).toNat) p n x))∧Chg (fun k=>k=c∨k=bm) w w':=by
 obtain⟨c64,f64,H1,G1⟩:=z4c h p
 have H1:Hid _:=H1
 have G1:Hid _:=G1
 have HT:Hid _:=ht
 have HT':Hid _:=ht'
 have HF:Hid _:=hf
 have HP:Hid (U32 p):=hp
 have HX:Hid (U32 x):=hx
 have T1:p.tmod n=0:=by rw[Int.tmod_eq_emod_of_nonneg hp.1];exact ho
 have w1:wrap64 p=p:=z0y (by have:=hp.1;omega) (by have:=hp.2;omega)
 have n0:¬n=0:=by omega
 have hu32:Hid (IntKind.u32.wrap n=n):=by show _=_;rw[IntKind.wrap_u32'];omega
 have HN:Hid (U32 n):=⟨by omega,by omega⟩
 have c34:=h.cell 34 (by decide)
 have e34:z0l s 34=.bool s.u:=rfl
 rw[e34,hu] at c34
 have c33:=h.cell 33 (by decide)
 have e33:z0l s 33=.int .u32 (s.f 32):=rfl
 rw[e33] at c33
 have c0:=h.cell 0 (by decide)
 have e0:z0l s 0=.slice (some ⟨bm,0,none⟩) l.length cap:=hm.m
 rw[e0] at c0
 have M1:Hid (z3x (w.setCell ⟨c,64,none⟩ (.int .u32 p)) c { s with lat:=p } bm cap l):=hm.on G1.out rfl
 have m4:(n==4)=false:=by simpa using h4
 clear h4
 have H5:Hid _:=H1.out
 have G5:Hid _:=G1.out
 have M5:Hid _:=M1.out
 clear h hf ht ht' hp hn hx ho hu e34 e33 e0 hm H1 G1 M1
 go_enter Tryz.func56,Tryz.ntmps56
 have CS:Hid _:=rStore bm l.length cap l p n x M5.out.len HP.out HX.out M5.out.u (w.setCell ⟨c,64,none⟩ (.int .u32 p)) M5.out.mem M5.out.free
 rw[ha] at CS
 go_wp2_with fail
 refine Calls.mono CS.out ?_
 rintro e w6 ⟨rfl,hw6⟩
 unfold z8l at hw6
 clear CS
 rw[if_pos ha] at hw6
 have nb:bm≠c:=M5.out.ne
 have hbk:w6.heap[c]?=(w.setCell ⟨c,64,none⟩ (.int .u32 p)).heap[c]?:=by rw[hw6];exact Below.heap_setCell _ _ _ _ (Ne.symm nb)
 have H6:Hid (z0i w6 c { s with lat:=p }):=⟨hbk.trans H5.out.is⟩
 have G6:Hid (Chg (fun k=>k=c∨k=bm) w w6):=by
  rw[hw6]
  exact (G5.out.mono (O':=fun k=>k=c∨k=bm) fun k _ e=>Or.inl e).set (O:=fun k=>k=c∨k=bm) (Or.inr rfl) _
 have M6:Hid (z3x w6 c { s with lat:=p } bm cap (l.set (p/4).toNat (z3h (z0p l (p/4).toNat) p n x))):=by
  have hlen:(p/4).toNat<l.length:=by
   have:=z8a ha
   have:=HP.out.1
   omega
  refine⟨by rw[List.length_set];exact M5.out.m,fun i hi=>?_,fun i=>?_,by rw[hw6];simpa [World.setCell] using M5.out.lt,nb,fun i=>?_,by rw[List.length_set];exact M5.out.len⟩
  ·rw[List.length_set] at hi
   by_cases e:i=(p/4).toNat
   ·have:=M5.out.mem i hi
    subst e
    rw[hw6,z2u hlen]
    simp[go_sem,this]
   ·rw[hw6,z2q (Ne.symm e),← M5.out.mem i hi]
    simp[go_sem]
  ·have:=M5.out.free i
   rw[hw6]
   simp[go_sem,this]
  ·by_cases e:i=(p/4).toNat
   ·subst e
    rw[z2u hlen]
    exact z1t _ _ _
   ·rw[z2q (Ne.symm e)]
    exact M5.out.u i
 have c33:=H6.out.cell 33 (by decide)
 have e33:z0l { s with lat:=p } 33=.int .u32 (s.f 32):=rfl
 rw[e33] at c33
 have CN:Hid _:=fun pc=>z4l H6.out pc 2 HT.out HT'.out (by decide) (by decide)
 clear e33 hw6 hbk H5 G5 M5
 generalize hq:s.f 32=q at *
 have HQ:Hid _:=hq
 clear hq
 go_wp2_with fail
 refine (CN.out _).mono ?_
 rintro e w7 ⟨rfl,h7,g7⟩
 have H7:Hid _:=h7
 have M7:Hid (z3x w7 c (onS { s with lat:=p }) bm cap (l.set (p/4).toNat (z3h (z0p l (p/4).toNat) p n x))):=M6.out.on g7 rfl
 have G7:Hid _:=G6.out.trans (g7.mono (O':=fun k=>k=c∨k=bm) fun k _ e=>Or.inl e)
 clear h7 g7 CN
 go_wp2
 go_end0
 refine⟨rfl,?_,M7.out,G7.out⟩
 unfold onS z2k
 rw[show ({ s with lat:=p }:CS).f 32=q from HQ.out]
 exact H7.out
theorem mstore_word_out {w : World} {c : Nat} {s : CS} {bm cap : Nat} {l : List Int} (h : z0i w c s) (hm : z3x w c s bm cap l) (hf : ∀ i, U32 (s.f i)) (ht : 0 ≤ s.t) (ht' : s.t ≤ 1152921504606846976) (p n x : Int) (hp : U32 p) (_hn : n = 1 ∨ n = 2 ∨ n = 4) (hx : U32 x) (ho : p % n = 0) (hu : s.u = false) (h4 : n = 4) (hd : p < 1073741824 ∨ 1073741840 < p) (ha : askV l.length p n = 2) :
    Calls Tryz.prog 56 #[.pointer (some ⟨c, 0, none⟩), .int .u32 p, .int .i64 n, .int .u32 x] w fun e w' => e = .returned (.tuple #[]) ∧ z0i w' c (z1j { s with lat := p } 7 p) ∧ Chg (· = c) w w' := by
  obtain⟨c64,f64,H1,G1⟩:=z4c h p
  have H1:Hid _:=H1
  have G1:Hid _:=G1
  have HT:Hid _:=ht
  have HT':Hid _:=ht'
  have HF:Hid _:=hf
  have HP:Hid (U32 p):=hp
  have HX:Hid (U32 x):=hx
  have T1:p.tmod n=0:=by rw[Int.tmod_eq_emod_of_nonneg hp.1];exact ho
  have w1:wrap64 p=p:=z0y (by have:=hp.1;omega) (by have:=hp.2;omega)
  have n0:¬n=0:=by omega
  have hu32:Hid (IntKind.u32.wrap n=n):=by show _=_;rw[IntKind.wrap_u32'];omega
  have HN:Hid (U32 n):=⟨by omega,by omega⟩
  have c34:=h.cell 34 (by decide)
  have e34:z0l s 34=.bool s.u:=rfl
  rw[e34,hu] at c34
  have c33:=h.cell 33 (by decide)
  have e33:z0l s 33=.int .u32 (s.f 32):=rfl
  rw[e33] at c33
  have c0:=h.cell 0 (by decide)
  have e0:z0l s 0=.slice (some ⟨bm,0,none⟩) l.length cap:=hm.m
  rw[e0] at c0
  have M1:Hid (z3x (w.setCell ⟨c,64,none⟩ (.int .u32 p)) c { s with lat:=p } bm cap l):=hm.on G1.out rfl
  have m4:(n==4)=true:=by simpa using h4
  have d0:(p==1073741824)=false:=by rw[beq_eq_false_iff_ne];omega
  have d1:(p==1073741828)=false:=by rw[beq_eq_false_iff_ne];omega
  have d2:(p==1073741832)=false:=by rw[beq_eq_false_iff_ne];omega
  have d3:(p==1073741836)=false:=by rw[beq_eq_false_iff_ne];omega
  have d4:(p==1073741840)=false:=by rw[beq_eq_false_iff_ne];omega
  clear h4 hd
  generalize hS':z1j { s with lat:=p } 7 p=S' at *
  have HS':Hid _:=hS'
  clear hS'
  have H5:Hid _:=H1.out
  have G5:Hid _:=G1.out
  have M5:Hid _:=M1.out
  clear h hf ht ht' hp _hn hx ho hu e34 e33 e0 hm H1 G1 M1
  go_enter Tryz.func56,Tryz.ntmps56
  have CS:Hid _:=rStore bm l.length cap l p n x M5.out.len HP.out HX.out M5.out.u (w.setCell ⟨c,64,none⟩ (.int .u32 p)) M5.out.mem M5.out.free
  rw[ha] at CS
  go_wp2_with fail
  refine Calls.mono CS.out ?_
  rintro e w6 ⟨rfl,hw6⟩
  unfold z8l at hw6
  clear CS
  rw[if_neg (by rw[ha];decide)] at hw6
  subst hw6
  have CF:Hid _:=z3l H5.out HF.out 7 p HT.out HT'.out
  go_wp2_with fail
  refine Calls.mono CF.out ?_
  rintro e w6 ⟨rfl,h6,g6⟩
  have H6:Hid _:=h6
  have G6:Hid _:=G5.out.trans g6
  clear h6 g6 CF
  go_wp2
  refine bodyPost_ret (results_none rfl _ _ _) rfl ?_
  exact⟨rfl,by rw[← HS'.out];exact H6.out,G6.out⟩
theorem mstore_word_in {w:World} {c:Nat} {s:CS} {bm cap:Nat} {l:List Int} (h:z0i w c s) (hm:z3x w c s bm cap l) (hf:∀ i,U32 (s.f i)) (ht:0≤s.t) (ht':s.t≤1152921504606846976) (p n x:Int) (hp:U32 p) (_hn:n=1∨n=2∨n=4) (hx:U32 x) (ho:p%n=0) (hu:s.u=false) (h4:n=4) (hd:p<1073741824∨1073741840<p) (ha:askV l.length p n=0) :
  Calls Tryz.prog 56 #[.pointer (some ⟨c,0,none⟩),.int .u32 p,.int .i64 n,.int .u32 x] w fun e w'=>e=.returned (.tuple #[])∧z0i w' c (onS { s with lat:=p })∧z3x w' c (onS { s with lat:=p }) bm cap (l.set (p/4).toNat (z3h (z0p l (p/4).toNat) p n x))∧Chg (fun k=>k=c∨k=bm) w w':=by
 obtain⟨c64,f64,H1,G1⟩:=z4c h p
 have H1:Hid _:=H1
 have G1:Hid _:=G1
 have HT:Hid _:=ht
 have HT':Hid _:=ht'
 have HF:Hid _:=hf
 have HP:Hid (U32 p):=hp
 have HX:Hid (U32 x):=hx
 have T1:p.tmod n=0:=by rw[Int.tmod_eq_emod_of_nonneg hp.1];exact ho
 have w1:wrap64 p=p:=z0y (by have:=hp.1;omega) (by have:=hp.2;omega)
 have n0:¬n=0:=by omega
 have hu32:Hid (IntKind.u32.wrap n=n):=by show _=_;rw[IntKind.wrap_u32'];omega
 have HN:Hid (U32 n):=⟨by omega,by omega⟩
 have c34:=h.cell 34 (by decide)
 have e34:z0l s 34=.bool s.u:=rfl
 rw[e34,hu] at c34
 have c33:=h.cell 33 (by decide)
 have e33:z0l s 33=.int .u32 (s.f 32):=rfl
 rw[e33] at c33
 have c0:=h.cell 0 (by decide)
 have e0:z0l s 0=.slice (some ⟨bm,0,none⟩) l.length cap:=hm.m
 rw[e0] at c0
 have M1:Hid (z3x (w.setCell ⟨c,64,none⟩ (.int .u32 p)) c { s with lat:=p } bm cap l):=hm.on G1.out rfl
 have m4:(n==4)=true:=by simpa using h4
 have d0:(p==1073741824)=false:=by rw[beq_eq_false_iff_ne];omega
 have d1:(p==1073741828)=false:=by rw[beq_eq_false_iff_ne];omega
 have d2:(p==1073741832)=false:=by rw[beq_eq_false_iff_ne];omega
 have d3:(p==1073741836)=false:=by rw[beq_eq_false_iff_ne];omega
 have d4:(p==1073741840)=false:=by rw[beq_eq_false_iff_ne];omega
 clear h4 hd
 have H5:Hid _:=H1.out
 have G5:Hid _:=G1.out
 have M5:Hid _:=M1.out
 clear h hf ht ht' hp _hn hx ho hu e34 e33 e0 hm H1 G1 M1
 go_enter Tryz.func56,Tryz.ntmps56
 have CS:Hid _:=rStore bm l.length cap l p n x M5.out.len HP.out HX.out M5.out.u (w.setCell ⟨c,64,none⟩ (.int .u32 p)) M5.out.mem M5.out.free
 rw[ha] at CS
 go_wp2_with fail
 refine Calls.mono CS.out ?_
 rintro e w6 ⟨rfl,hw6⟩
 unfold z8l at hw6
 clear CS
 rw[if_pos ha] at hw6
 have nb:bm≠c:=M5.out.ne
 have hbk:w6.heap[c]?=(w.setCell ⟨c,64,none⟩ (.int .u32 p)).heap[c]?:=by rw[hw6];exact Below.heap_setCell _ _ _ _ (Ne.symm nb)
 have H6:Hid (z0i w6 c { s with lat:=p }):=⟨hbk.trans H5.out.is⟩
 have G6:Hid (Chg (fun k=>k=c∨k=bm) w w6):=by
  rw[hw6]
  exact (G5.out.mono (O':=fun k=>k=c∨k=bm) fun k _ e=>Or.inl e).set (O:=fun k=>k=c∨k=bm) (Or.inr rfl) _
 have M6:Hid (z3x w6 c { s with lat:=p } bm cap (l.set (p/4).toNat (z3h (z0p l (p/4).toNat) p n x))):=by
  have hlen:(p/4).toNat<l.length:=by
   have:=z8a ha
   have:=HP.out.1
   omega
  refine⟨by rw[List.length_set];exact M5.out.m,fun i hi=>?_,fun i=>?_,by rw[hw6];simpa [World.setCell] using M5.out.lt,nb,fun i=>?_,by rw[List.length_set];exact M5.out.len⟩
  ·rw[List.length_set] at hi
   by_cases e:i=(p/4).toNat
   ·have:=M5.out.mem i hi
    subst e
    rw[hw6,z2u hlen]
    simp[go_sem,this]
   ·rw[hw6,z2q (Ne.symm e),← M5.out.mem i hi]
    simp[go_sem]
  ·have:=M5.out.free i
   rw[hw6]
   simp[go_sem,this]
  ·by_cases e:i=(p/4).toNat
   ·subst e
    rw[z2u hlen]
    exact z1t _ _ _
   ·rw[z2q (Ne.symm e)]
    exact M5.out.u i
 have c33:=H6.out.cell 33 (by decide)
 have e33:z0l { s with lat:=p } 33=.int .u32 (s.f 32):=rfl
 rw[e33] at c33
 have CN:Hid _:=fun pc=>z4l H6.out pc 2 HT.out HT'.out (by decide) (by decide)
 clear e33 hw6 hbk H5 G5 M5
 generalize hq:s.f 32=q at *
 have HQ:Hid _:=hq
 clear hq
 go_wp2_with fail
 refine (CN.out _).mono ?_
 rintro e w7 ⟨rfl,h7,g7⟩
 have H7:Hid _:=h7
 have M7:Hid (z3x w7 c (onS { s with lat:=p }) bm cap (l.set (p/4).toNat (z3h (z0p l (p/4).toNat) p n x))):=M6.out.on g7 rfl
 have G7:Hid _:=G6.out.trans (g7.mono (O':=fun k=>k=c∨k=bm) fun k _ e=>Or.inl e)
 clear h7 g7 CN
 go_wp2
 go_end0
 refine⟨rfl,?_,M7.out,G7.out⟩
 unfold onS z2k
 rw[show ({ s with lat:=p }:CS).f 32=q from HQ.out]
 exact H7.out
structure Ev where
 task:Int
 kind:Int
 n:Int
def z5p (e:Ev):List Value:=[.int .i64 e.task,.int .i64 e.kind,.int .u32 e.n]
def z5d (l:List Ev):List Value:=l.flatMap z5p
theorem evrow_append (l m:List Ev):z5d (l++m)=z5d l++z5d m:=by unfold z5d;rw[List.flatMap_append]
theorem infoE:(Tryz.prog.info? 63).map (fun i=>(i.zero,i.size,i.bytes))=some (some (.agg #[.int .i64 0,.int .i64 0,.int .u32 0]),3,24):=by kernel_rfl
theorem mstore_say {w : World} {c : Nat} {s : CS} {B : Nat} {es : List Ev} (h : z0i w c s) (ho : w.ownsRow B 63 3 s.ev es.length (z5d es)) (hB : c < B) (hB' : B ≤ w.heap.size) (hlen : es.length ≤ 1000000) (htk : U32 s.task) (hkd : U32 s.kind) (ht : 0 ≤ s.t) (ht' : s.t ≤ 1152921504606846976) (x : Int) (hu : s.u = false) :
    Calls Tryz.prog 56 #[.pointer (some ⟨c,0,none⟩),.int .u32 1073741836,.int .i64 4,.int .u32 x] w fun e w'=>e=.returned (.tuple #[])∧∃ ev,z0i w' c (onS { s with lat:=1073741836,ev:=ev })∧w'.ownsRow B 63 3 ev (es.length+1) (z5d (es++[⟨s.task,s.kind,x⟩]))∧Chg (fun k=>k=c∨s.ev.ownBlock=some k) w w'∧∀ k,ev.ownBlock=some k→s.ev.ownBlock=some k∨w.heap.size≤k:=by
  obtain⟨i0,hi0,hz0,hz1,hz2⟩:=info_parts infoE
  obtain⟨c64,f64,H1,G1⟩:=z4c h 1073741836
  have H1:Hid _:=H1
  have G1:Hid _:=G1
  have HT:Hid _:=ht
  have HT':Hid _:=ht'
  have c34:=h.cell 34 (by decide)
  have e34:z0l s 34=.bool s.u:=rfl
  rw[e34,hu] at c34
  have O1:Hid ((w.setCell ⟨c,64,none⟩ (.int .u32 1073741836)).ownsRow B 63 3 s.ev es.length (z5d es)):=by
    obtain⟨h0,h1 | ⟨g,cap,cur,e1,e2,e3,e4,e5,e6,e7⟩⟩:=ho
    · exact⟨h0,Or.inl h1⟩
    · exact⟨h0,Or.inr ⟨g,cap,cur,e1,e2,by rw[Below.heap_setCell _ _ _ _ (show g≠c by omega)];exact e3,e4,e5,e6,e7⟩⟩
  clear h ht ht' hu e34 ho
  go_enter Tryz.func56,Tryz.ntmps56
  go_wp2_with fail
  have hsz0:Hid (w.heap.size=(w.setCell ⟨c,64,none⟩ (.int .u32 1073741836)).heap.size):=by show _=_;simp[World.setCell]
  have hsz:B≤(w.setCell ⟨c,64,none⟩ (.int .u32 1073741836)).heap.size:=by simpa [World.setCell] using hB'
  generalize w.setCell ⟨c,64,none⟩ (.int .u32 1073741836)=V at *
  have c66:=H1.out.cell 66 (by decide)
  have e66:z0l { s with lat:=1073741836 } 66=s.ev:=rfl
  rw[e66] at c66
  have c67:=H1.out.cell 67 (by decide)
  have e67:z0l { s with lat:=1073741836 } 67=.int .u32 s.task:=rfl
  rw[e67] at c67
  have c68:=H1.out.cell 68 (by decide)
  have e68:z0l { s with lat:=1073741836 } 68=.int .u32 s.kind:=rfl
  rw[e68] at c68
  have f66:=H1.out.free 66
  have t1:IntKind.i64.wrap s.task=s.task:=by rw[IntKind.wrap_i64];have:=htk.1;have:=htk.2;omega
  have t2:IntKind.i64.wrap s.kind=s.kind:=by rw[IntKind.wrap_i64];have:=hkd.1;have:=hkd.2;omega
  have hc:c<V.heap.size:=by omega
  have HG:Hid (∀ b,s.ev.ownBlock=some b→B≤b∧b<V.heap.size):=fun b hb=>by
    obtain⟨_,⟨e1,_⟩ | ⟨g,cap,cur,e1,hg,e3,_⟩⟩:=O1.out
    · rw[e1] at hb;cases hb
    · rw[e1] at hb
      simp only[Value.ownBlock,Option.some.injEq] at hb
      subst hb
      exact⟨hg,(Array.getElem?_eq_some_iff.1 e3).1⟩
  have ag:s.ev.ownBlock≠some c:=fun e=>by have:=(HG.out _ e).1;omega
  have K66:Hid (∀ o,((V.alloc o).drew).cell? ⟨c,66,none⟩=some s.ev):=fun o=>by
    show (V.alloc o).cell? _=_
    rw[((Below.refl V.heap.size V).alloc (Nat.le_refl _) o).cell (p:=⟨c,66,none⟩) hc]
    exact c66
  have F66:Hid (∀ o,((V.alloc o).drew).frozen? ⟨c,66,none⟩=false):=fun o=>by
    show (V.alloc o).frozen? _=_
    rw[((Below.refl V.heap.size V).alloc (Nat.le_refl _) o).frozen (p:=⟨c,66,none⟩) hc]
    exact f66
  clear e66 e67 e68 c64 f64 c34
  generalize hev:s.ev=ev at *
  generalize hta:s.task=ta at *
  generalize hki:s.kind=ki at *
  go_region_law
    ((refine step_append_lies _ (by rfl) _ _ _ (by rfl) B 63 i0 _ 3 24 Tryz.underlying47 hi0 hz0 hz1 hz2 rfl (by omega) ev es.length (z5d es) (by rfl) (World.ownsRow.drew (World.ownsRow.alloc O1.out _))
        ⟨V.heap.size,0,none⟩ 1 1 (z5p ⟨ta,ki,x⟩) (by rfl) (by rfl) (World.news_of_block (cs:=(z5p ⟨ta,ki,x⟩).toArray) (t:=63) (fr:=(0,0)) (heap_alloc_new V _)) (by simp[z5p,Value.oneCell'])
        (by omega) (by unfold maxLen;omega) (by omega) (by simp;omega) (V.heap.size+1) (by simp) ?_);(intro gg cap w1 hown1 hgrow hat hlt);(have q66:w1.cell? ⟨c,66,none⟩=some ev:=(hgrow.cell_far _ (by simp;omega) (Ne.symm ag)).trans (K66.out _));(have qf66:w1.frozen? ⟨c,66,none⟩=false:=(hgrow.frozen_far _ (by simp;omega) (Ne.symm ag)).trans (F66.out _)))
  all_goals
    subst hev
    subst hta
    subst hki
    have hb1:w1.heap[c]?=V.heap[c]?:=by
      rw[hgrow.block c (by simp;omega) (Ne.symm ag)]
      exact Below.heap_alloc _ _ _ hc
    have H5:Hid (z0i w1 c { s with lat:=1073741836 }):=⟨hb1.trans H1.out.is⟩
    have H6:Hid (z0i (w1.setCell ⟨c,66,none⟩ (.slice (some ⟨gg,0,none⟩) (es.length+1) cap)) c { s with lat:=1073741836,ev:=.slice (some ⟨gg,0,none⟩) (es.length+1) cap }):=H5.out.put 66 _ (fun j _=>cg_ev { s with lat:=1073741836 } _ j)
    have G5:Chg (fun k=>k=c∨s.ev.ownBlock=some k) V w1:=⟨hgrow.os,hgrow.tape,hgrow.output,Nat.le_trans (by simp) hgrow.size,fun k hk ho=>by
      rw[hgrow.block k (by simp;omega) (fun e=>ho (Or.inr e.symm))]
      exact Below.heap_alloc _ _ _ hk⟩
    have G6:Hid (Chg (fun k=>k=c∨s.ev.ownBlock=some k) w (w1.setCell ⟨c,66,none⟩ (.slice (some ⟨gg,0,none⟩) (es.length+1) cap))):=
      ((G1.out.mono (O':=fun k=>k=c∨s.ev.ownBlock=some k) fun k _ e=>Or.inl e).trans G5).set (O:=fun k=>k=c∨s.ev.ownBlock=some k) (Or.inl rfl) _
    have HF:Hid (∀ k,(Value.slice (some ⟨gg,0,none⟩) (es.length+1) cap).ownBlock=some k→s.ev.ownBlock=some k∨w.heap.size≤k):=fun k hk=>by
      simp only[Value.ownBlock,Option.some.injEq] at hk
      subst hk
      rcases hat with e | e
      · exact Or.inl e
      · have:=hsz0.out;exact Or.inr (by omega)
    have hgB:B≤gg:=by
      rcases hat with e | e
      · exact (HG.out _ e).1
      · omega
    have O6:Hid ((w1.setCell ⟨c,66,none⟩ (.slice (some ⟨gg,0,none⟩) (es.length+1) cap)).ownsRow B 63 3 (.slice (some ⟨gg,0,none⟩) (es.length+1) cap) (es.length+1) (z5d (es++[⟨s.task,s.kind,x⟩]))):=by
      rw[evrow_append]
      obtain⟨h0,h1 | ⟨g,cp,cur,e1,e2,e3,e4,e5,e6,e7⟩⟩:=hown1
      · exact⟨h0,Or.inl h1⟩
      · exact⟨h0,Or.inr ⟨g,cp,cur,e1,e2,by rw[Below.heap_setCell _ _ _ _ (show g≠c by omega)];exact e3,e4,e5,e6,e7⟩⟩
    generalize w1.setCell ⟨c,66,none⟩ (.slice (some ⟨gg,0,none⟩) (es.length+1) cap)=W6 at *
    have c33:=H6.out.cell 33 (by decide)
    have e33:z0l { s with lat:=1073741836,ev:=.slice (some ⟨gg,0,none⟩) (es.length+1) cap } 33=.int .u32 (s.f 32):=rfl
    rw[e33] at c33
    have CN:Hid _:=fun pc=>z4l H6.out pc 2 HT.out HT'.out (by decide) (by decide)
    clear e33 hb1 H5 H6 G5 q66 qf66 hgrow hown1 K66 F66 c66 c67 c68 f66 hat
    generalize hq:s.f 32=q at *
    have HQ:Hid _:=hq
    clear hq
    go_wp2_with fail
    refine (CN.out _).mono ?_
    rintro e w7 ⟨rfl,h7,g7⟩
    have H7:Hid _:=h7
    have O7:Hid (w7.ownsRow B 63 3 (.slice (some ⟨gg,0,none⟩) (es.length+1) cap) (es.length+1) (z5d (es++[⟨s.task,s.kind,x⟩]))):=by
      obtain⟨h0,h1 | ⟨g,cp,cur,e1,e2,e3,e4,e5,e6,e7⟩⟩:=O6.out
      · exact⟨h0,Or.inl h1⟩
      · exact⟨h0,Or.inr ⟨g,cp,cur,e1,e2,g7.kept e3 (show ¬g=c by omega),e4,e5,e6,e7⟩⟩
    have G7:Hid _:=G6.out.trans (g7.mono (O':=fun k=>k=c∨s.ev.ownBlock=some k) fun k _ e=>Or.inl e)
    clear h7 g7 CN
    go_wp2
    refine bodyPost_ret (results_none rfl _ _ _) rfl ?_
    refine⟨rfl,_,?_,O7.out,G7.out,HF.out⟩
    unfold onS z2k
    rw[show ({ s with lat:=1073741836,ev:=.slice (some ⟨gg,0,none⟩) (es.length+1) cap }:CS).f 32=q from HQ.out]
    exact H7.out
theorem z8x {P:Program} {o:Oper} {a:Act} {w:World} {C:World→Prop} (ty:TypeId) (x:Operand) (ho:o.op=.load ty x) (b k:Nat) (hx:a.eval x=.pointer (some ⟨b,k,none⟩)) (cs:Array Value) (d:TypeDesc) (hc:w.rangeAt b k cs.toList)
  (hu:P.underlying ty=some d) (hd:d.isRow=true) (hi:(P.info? ty).map (·.size)=some cs.size):o.quietAt P a C w (.agg cs):=by
 refine z0d ?_
 unfold execOp
 have:=run_loadVar_mid (P:=P) w b k ty cs.toList d hc hu hd (by rw[Array.length_toList];exact hi)
 rw[Array.toArray_toList] at this
 simp only[ho,hx,Instr.loadAt,Instr.sureAddr,Sem.run_bind,Sem.run_pure,Result.andThen_ok,this]
theorem cgot_alloc (w:World):(Instr.alloc 81 true (.tuple #[])).run Tryz.prog w=.ok (.pointer (some ⟨w.heap.size,0,none⟩)) (w.alloc (.cells #[.int .u32 0,.int .i64 0] 81)):=by kernel_rfl
theorem cgot_info:(Tryz.prog.info? 81).map (·.size)=some 2:=by kernel_rfl
def oldV (s:CS) (n:Int):Int:=z4e s.f n s.t (dueV s)
def csrX (k:Nat) (old a:Int):Int:=if k=0 then a else if k=1 then bits .or .u32 old a else bits .andNot .u32 old a
def csrS (s:CS) (k:Nat) (rd:Nat) (r1 n a wd:Int):CS:=
 if z2b n≠0 then z1j s 2 wd
 else if k=0∨r1≠0 then (if z2y n≠0 then z1j s 2 wd else z2k { s with f:=set1 (z2o s.f n (csrX k (oldV s n) a)) rd (oldV s n) } ((z2o s.f n (csrX k (oldV s n) a) 32+4)%4294967296) 1)
 else z2k { s with f:=set1 s.f rd (oldV s n) } ((s.f 32+4)%4294967296) 1
theorem cwrote_info:(Tryz.prog.info? 138).map (·.size)=some 58:=by kernel_rfl
theorem z8t {w:World} {b:Nat} {f:Nat→Int} {u:Bool} {e:Int} {t:TypeId} (h:w.heap[b]?=some (.cells (z2s f u e) t)):w.rangeAt b 0 (z0c f u).toList:=by
 refine range_of h fun j v hv=>?_
 have hj:j<57:=by
  have:=(List.getElem?_eq_some_iff.1 hv).1
  rwa [Array.length_toList,z0b] at this
 rw[Nat.zero_add]
 unfold z2s
 rw[Array.getElem?_push_lt (by rw[z0b];exact hj)]
 rw[Array.getElem?_toList,Array.getElem?_eq_getElem (by rw[z0b];exact hj)] at hv
 exact hv
theorem crow58_last {w:World} {b:Nat} {f:Nat→Int} {u:Bool} {e:Int} {t:TypeId} (h:w.heap[b]?=some (.cells (z2s f u e) t)):w.cell? ⟨b,57,none⟩=some (.int .i64 e):=by
 refine (z0a h).1 57 _ ?_
 unfold z2s
 have:=Array.getElem?_push_size (xs:=z0c f u) (x:=.int .i64 e)
 rw[z0b] at this
 exact this
theorem mcsr_w {w : World} {c : Nat} {s : CS} (h : z0i w c s) (hf : ∀ i, U32 (s.f i)) (ht : 0 ≤ s.t) (ht' : s.t ≤ 1152921504606846976) (rd : Nat) (hrd : rd < 32) (r1 r2 : Int) (n a wd : Int) (hn : 0 ≤ n) (hn' : n < 4096) (ha : U32 a) :
    Calls Tryz.prog 57 #[.pointer (some ⟨c, 0, none⟩), .agg #[.string ⟨#[99, 115, 114, 114, 119]⟩, .int .i64 rd, .int .i64 r1, .int .i64 r2, .int .i32 n], .int .u32 a, .int .u32 wd] w fun e w' => e = .returned (.tuple #[]) ∧ z0i w' c (csrS s 0 rd r1 n a wd) ∧ Chg (· = c) w w' := by
  have HC:Hid (z0i w c s):=h
  have HF:Hid _:=hf
  have HT:Hid _:=ht
  have HT':Hid _:=ht'
  have hmo:Tryz.prog.follows .mixedOrders=true:=by kernel_rfl
  obtain⟨fs,hfs⟩:=z3f
  have HS:Hid _:=hfs
  have wn:wrap64 n=n:=z0y (by omega) (by omega)
  have HV:Hid (csrS s 0 rd r1 n a wd=csrS s 0 rd r1 n a wd):=rfl
  generalize hS':csrS s 0 rd r1 n a wd=S' at *
  have HS':Hid _:=hS'
  have C1:Hid _:=fun W (hW:z0i W c s)=>mdue hW
  have C2:Hid (∀ w,Calls Tryz.prog 88 #[.agg (z0c s.f s.u),.int .i64 n,.int .i64 s.t,.bool (dueV s)] w fun e w'=>e=.returned (.agg #[.int .u32 (oldV s n),.int .i64 (z2b n)])∧Below w.heap.size w w'):=fun w=>rReadC s.f s.u n s.t (dueV s) w
  have C3:Hid (∀ x,U32 x→∀ w,Calls Tryz.prog 89 #[.agg (z0c s.f s.u),.int .i64 n,.int .u32 x] w fun e w'=>e=.returned (.agg (z2s (z2o s.f n x) s.u (z2y n)))∧Below w.heap.size w w'):=fun x hx w=>rWrite s.f s.u n x hx w
  have r0:(0:Int)≤(rd:Int):=by omega
  have r1':(rd:Int)<32:=by omega
  clear h hf ht ht' hfs hS' hn hn' HV
  go_enter Tryz.func57,Tryz.ntmps57
  go_wp2_with fail
  rw[wn]
  have H1:Hid (z0i (w.alloc (.cells #[.string ⟨#[99,115,114,114,119]⟩,.int .i64 rd,.int .i64 r1,.int .i64 r2,.int .i32 n] 52)) c s):=HC.out.below ((Below.refl _ _).alloc (Nat.le_refl _) _)
  have G1 : Hid (Chg (· = c) w (w.alloc (.cells #[.string ⟨#[99, 115, 114, 114, 119]⟩, .int .i64 rd, .int .i64 r1, .int .i64 r2, .int .i32 n] 52))) := (Chg.refl _ _).alloc _
  have I1:(w.alloc (.cells #[.string ⟨#[99,115,114,114,119]⟩,.int .i64 rd,.int .i64 r1,.int .i64 r2,.int .i32 n] 52)).heap[w.heap.size]?=some (.cells #[.string ⟨#[99,115,114,114,119]⟩,.int .i64 rd,.int .i64 r1,.int .i64 r2,.int .i32 n] 52):=z0g _ _
  have hci:w.heap.size≠c:=by have:=HC.out.lt;omega
  generalize w.alloc (.cells #[.string ⟨#[99,115,114,114,119]⟩,.int .i64 rd,.int .i64 r1,.int .i64 r2,.int .i32 n] 52)=V at *
  generalize w.heap.size=bi at *
  refine z6e [⟨12,9,81,13,26,#[.int .u32 0,.int .i64 0],#[.int .u32 (oldV s n),.int .i64 (z2b n)]⟩]
    [.pointer (some ⟨c,0,none⟩),.pointer (some ⟨c,0,none⟩),.pointer (some ⟨c,1,none⟩),.agg (z0c s.f s.u),.int .i64 n,.pointer (some ⟨c,0,none⟩),.pointer (some ⟨c,0,none⟩),.pointer (some ⟨c,58,none⟩),.int .i64 s.t,.pointer (some ⟨c,0,none⟩),.bool (dueV s),.agg #[.int .u32 (oldV s n),.int .i64 (z2b n)],undef,undef]
    hmo (by kernel_rfl) ?_ ?_ ?_ ?_ ?_
  · intro r hr
    simp only[List.mem_cons,List.not_mem_nil,or_false] at hr
    subst hr
    exact (by decide:9<91)
  · generalize hl:lay _ _ _=af
    have e0:af.tmps[0]?.getD undef=.pointer (some ⟨c,0,none⟩):=by rw[← hl];kernel_rfl
    have e8:af.tmps[8]?.getD undef=.int .i64 n:=by rw[← hl];kernel_rfl
    have e15:af.tmps[15]?.getD undef=.pointer (some ⟨c,0,none⟩):=by rw[← hl];kernel_rfl
    have e16:af.tmps[16]?.getD undef=.pointer (some ⟨c,0,none⟩):=by rw[← hl];kernel_rfl
    have v17:af.eval (.tmp 17)=.pointer (some ⟨c,1,none⟩):=by rw[← hl];kernel_rfl
    have e18:af.tmps[18]?.getD undef=.agg (z0c s.f s.u):=by rw[← hl];kernel_rfl
    have e19:af.tmps[19]?.getD undef=.int .i64 n:=by rw[← hl];kernel_rfl
    have e20:af.tmps[20]?.getD undef=.pointer (some ⟨c,0,none⟩):=by rw[← hl];kernel_rfl
    have e21:af.tmps[21]?.getD undef=.pointer (some ⟨c,0,none⟩):=by rw[← hl];kernel_rfl
    have e22:af.tmps[22]?.getD undef=.pointer (some ⟨c,58,none⟩):=by rw[← hl];kernel_rfl
    have e23:af.tmps[23]?.getD undef=.int .i64 s.t:=by rw[← hl];kernel_rfl
    have e24:af.tmps[24]?.getD undef=.pointer (some ⟨c,0,none⟩):=by rw[← hl];kernel_rfl
    have e25:af.tmps[25]?.getD undef=.bool (dueV s):=by rw[← hl];kernel_rfl
    clear hl
    refine And.intro (fun w' hw=>z0d (by simp[execOp,go_sem,e0])) ?_
    refine And.intro (fun w' hw=>z0d (by simp[execOp,go_sem,e15])) ?_
    refine And.intro (fun w' hw=>z0d (by simp[execOp,go_sem,e16])) ?_
    refine And.intro (fun w' hw=>z8x 32 (.tmp 17) rfl c 1 v17 (z0c s.f s.u) _ (H1.out.below hw).regs HS.out rfl (by rw[z0b];exact z0o)) ?_
    refine And.intro (fun w' hw=>z0d (by simp[execOp,go_sem,e8])) ?_
    refine And.intro (fun w' hw=>z0d (by simp[execOp,go_sem,e0])) ?_
    refine And.intro (fun w' hw=>z0d (by simp[execOp,go_sem,e20])) ?_
    refine And.intro (fun w' hw=>z0d (by simp[execOp,go_sem,e21])) ?_
    refine And.intro (fun w' hw=>by
      have c58:=(H1.out.below hw).cell 58 (by decide)
      have e58:z0l s 58=.int .i64 s.t:=rfl
      rw[e58] at c58
      exact z0d (by simp[execOp,go_sem,e22,c58])) ?_
    refine And.intro (fun w' hw=>z0d (by simp[execOp,go_sem,e0])) ?_
    refine And.intro (fun w' hw=>z1k 28 #[.pointer (some ⟨c,0,none⟩)] (by simp[go_sem,e24]) (C1.out _ (H1.out.below hw))) ?_
    refine And.intro (fun w' hw=>z1k 88 #[.agg (z0c s.f s.u),.int .i64 n,.int .i64 s.t,.bool (dueV s)] (by simp[go_sem,e18,e19,e23,e25]) (C2.out _)) ?_
    exact⟨True.intro,True.intro,True.intro⟩
  · intro r hr
    simp only[List.mem_cons,List.not_mem_nil,or_false] at hr
    subst hr
    exact cgot_alloc
  · intro r hr
    simp only[List.mem_cons,List.not_mem_nil,or_false] at hr
    generalize hl:lay _ _ _=af
    have e26:af.eval (.tmp 26)=.agg #[.int .u32 (oldV s n),.int .i64 (z2b n)]:=by rw[← hl];kernel_rfl
    clear hl
    subst hr
    intro w' b' hb
    rw[e26]
    exact z8v _ _ #[.int .u32 0,.int .i64 0] #[.int .u32 (oldV s n),.int .i64 (z2b n)] cgot_info rfl (by simp[Value.oneCell']) b' hb
  intro β W2 hW hbl _
  have hg2:=(hbl _ (List.mem_cons_self)).2.2
  have hgl:=(hbl _ (List.mem_cons_self)).1
  simp only at hg2 hgl
  simp[z3o,lay,Act.put]
  generalize β 9=bg at *
  have H2:Hid (z0i W2 c s):=H1.out.below hW
  have G2 : Hid (Chg (· = c) w W2) := G1.out.step hW
  have I2:=z0f I1 hW
  have hcg:bg≠c:=by have:=H1.out.lt;omega
  clear hbl hW H1 G1 I1 hgl C1 C2 wn hmo
  have HVa:Hid (z2b n≠0→S'=z1j s 2 wd):=fun h=>by rw[← HS'.out];unfold csrS;rw[if_pos h]
  have HVb:Hid (z2b n=0→z2y n≠0→S'=z1j s 2 wd):=fun h h2=>by rw[← HS'.out];unfold csrS;rw[if_neg (by omega),if_pos (Or.inl rfl),if_pos h2]
  have HVc:Hid (z2b n=0→z2y n=0→S'=z2k { s with f:=set1 (z2o s.f n (csrX 0 (oldV s n) a)) rd (oldV s n) } ((z2o s.f n (csrX 0 (oldV s n) a) 32+4)%4294967296) 1):=fun h h2=>by rw[← HS'.out];unfold csrS;rw[if_neg (by omega),if_pos (Or.inl rfl),if_neg (by omega)]
  clear HS'
  obtain⟨gc,_,gl⟩:=z0a hg2
  have g0:=gc 0 (.int .u32 (oldV s n)) rfl
  have g1:=gc 1 (.int .i64 (z2b n)) rfl
  obtain⟨ic,_,il⟩:=z0a I2
  have i0:=ic 0 (.string ⟨#[99,115,114,114,119]⟩) rfl
  have i1:=ic 1 (.int .i64 rd) rfl
  have i2:=ic 2 (.int .i64 r1) rfl
  clear gc ic
  generalize hN:oldV s n=N at *
  generalize hE:z2b n=E at *
  clear hN hE
  by_cases hE:E=0
  · subst hE
    have c1:Hid _:=H2.out.regs
    go_wp2_with (first | (refine z0w (by rfl) 32 (.tmp 58) rfl c 1 rfl (z0c s.f s.u) _ c1.out HS.out rfl (by rw[z0b];exact z0o) ?_))
    refine (C3.out a (ha) _).mono ?_
    rintro e w3 ⟨rfl,b3⟩
    have H3:Hid _:=H2.out.below b3
    have G3:Hid _:=G2.out.step b3
    have I3:=z0f I2 b3
    have J3:=z0f hg2 b3
    clear b3 H2 G2 I2 hg2 c1 g0 g1 i0 i1 i2
    generalize hF:z2o s.f n a=F at *
    generalize hE2:z2y n=E2 at *
    have HFe:Hid _:=hF
    clear hF hE2
    go_wp2_with (first | (refine z4p rfl 138 (.tmp 11) (.tmp 62) rfl rfl (z2s _ _ _) rfl 138 _ (by rw[z0r];exact cwrote_info) (by rw[z0r];rfl) (z2c _ _ _) ?_))
    intro w4 J4 b4
    have H4:Hid _:=H3.out.below b4
    have G4:Hid _:=G3.out.step b4
    have I4:=z0f I3 b4
    have K4:=z0f J3 b4
    have hbw:w3.heap.size≠c:=by have:=H3.out.lt;omega
    generalize w3.heap.size=bw at *
    clear b4 H3 G3 I3 J3
    have l57:=crow58_last J4
    by_cases hE2:E2=0
    · subst hE2
      have HE:Hid (S'=z2k { s with f:=set1 F rd N } ((F 32+4)%4294967296) 1):=by have:=HVc.out (by simp) (by simp);rw[← HFe.out];exact this
      clear HVa HVb HVc
      have RG:Hid _:=z8t J4
      go_wp2_with (first | (refine z0w (by rfl) 32 (.tmp 70) rfl bw 0 rfl (z0c F s.u) _ RG.out HS.out rfl (by rw[z0b];exact z0o) ?_) | (refine z1v rfl 32 (.tmp 73) (.tmp 71) rfl c 1 (z0c F s.u) rfl rfl (by rw[z0b];exact H4.out.there) (by rw[z0b];exact z0o) (z0s _ _) ?_))
      have H5:Hid (z0i (w4.setCells c 1 (z0c F s.u).toList) c { s with f:=F }):=H4.out.regsIn F s.u
      have G5 : Hid (Chg (· = c) w (w4.setCells c 1 (z0c F s.u).toList)) := G4.out.owns _
      have IW:=(z1n (z0c F s.u).toList 1 w4 hci).trans I4
      have GWk:=(z1n (z0c F s.u).toList 1 w4 hcg).trans K4
      generalize w4.setCells c 1 (z0c F s.u).toList=W5 at *
      clear H4 G4 I4 K4 J4 l57 RG
      obtain⟨ic,_,il⟩:=z0a IW
      have i1:=ic 1 (.int .i64 rd) rfl
      obtain⟨gc,_,gl⟩:=z0a GWk
      have g0:=gc 0 (.int .u32 N) rfl
      have cr:=H5.out.cell (rd+1) (by omega)
      have er:z0l { s with f:=F } (rd+1)=.int .u32 (F rd):=by
        unfold z0l
        rw[if_neg (by omega),if_pos (by omega)]
        unfold rv
        rw[if_neg (by omega),Nat.add_sub_cancel]
      rw[er,Nat.add_comm] at cr
      have fr:=H5.out.free (1+rd)
      clear ic gc er
      go_wp2_with fail
      go_region
      have H6:Hid (z0i ((W5.setCell ⟨c,1+rd,none⟩ (.int .u32 N)).drew) c { s with f:=set1 (F) rd N }):=by
        rw[Nat.add_comm]
        exact (H5.out.put (rd+1) _ (fun j _=>z8u { s with f:=F } rd (by omega) (by omega) N j)).drew
      have G6 : Hid (Chg (· = c) w ((W5.setCell ⟨c, 1 + rd, none⟩ (.int .u32 N)).drew)) := (G5.out.own _).drew
      generalize (W5.setCell ⟨c,1+rd,none⟩ (.int .u32 N)).drew=W6 at *
      have c33:=H6.out.cell 33 (by decide)
      have e33:z0l { s with f:=set1 (F) rd N } 33=.int .u32 (F 32):=by
        show Value.int .u32 (set1 (F) rd N 32)=_
        unfold set1
        rw[if_neg (by omega)]
      rw[e33] at c33
      have CN:Hid _:=fun pc=>z4l H6.out pc 1 HT.out HT'.out (by decide) (by decide)
      clear e33 H6 cr fr
      generalize hq:F 32=q at *
      have HQ:Hid _:=hq
      clear hq
      go_wp2_with fail
      refine (CN.out _).mono ?_
      rintro e w7 ⟨rfl,h7,g7⟩
      have H7:Hid _:=h7
      have G7:Hid _:=G6.out.trans g7
      clear h7 g7 CN G6
      go_wp2
      go_end0
      refine⟨rfl,?_,G7.out⟩
      rw[HE.out]
      exact H7.out
    · have b2:(E2 != 0)=true:=by simpa using hE2
      have HE:Hid (S'=z1j s 2 wd):=HVb.out (by simp) hE2
      clear HVa HVb HVc hE2
      have CF:Hid _:=z3l H4.out HF.out 2 wd HT.out HT'.out
      go_wp2_with fail
      refine Calls.mono CF.out ?_
      rintro e w6 ⟨rfl,h6,g6⟩
      have H6:Hid _:=h6
      have G6:Hid _:=G4.out.trans g6
      clear h6 g6 CF
      go_wp2
      refine bodyPost_ret (results_none rfl _ _ _) rfl ?_
      exact⟨rfl,by rw[HE.out];exact H6.out,G6.out⟩
  · have b0:(E != 0)=true:=by simpa using hE
    have HE:Hid (S'=z1j s 2 wd):=HVa.out hE
    clear HVa HVb HVc hE
    have CF:Hid _:=z3l H2.out HF.out 2 wd HT.out HT'.out
    go_wp2_with fail
    refine Calls.mono CF.out ?_
    rintro e w6 ⟨rfl,h6,g6⟩
    have H6:Hid _:=h6
    have G6:Hid _:=G2.out.trans g6
    clear h6 g6 CF
    go_wp2
    refine bodyPost_ret (results_none rfl _ _ _) rfl ?_
    exact⟨rfl,by rw[HE.out];exact H6.out,G6.out⟩
theorem mcsr_s {w : World} {c : Nat} {s : CS} (h : z0i w c s) (hf : ∀ i, U32 (s.f i)) (ht : 0 ≤ s.t) (ht' : s.t ≤ 1152921504606846976) (rd : Nat) (hrd : rd < 32) (r1 r2 : Int) (n a wd : Int) (hn : 0 ≤ n) (hn' : n < 4096) (_ha : U32 a) :
    Calls Tryz.prog 57 #[.pointer (some ⟨c, 0, none⟩), .agg #[.string ⟨#[99, 115, 114, 114, 115]⟩, .int .i64 rd, .int .i64 r1, .int .i64 r2, .int .i32 n], .int .u32 a, .int .u32 wd] w fun e w' => e = .returned (.tuple #[]) ∧ z0i w' c (csrS s 1 rd r1 n a wd) ∧ Chg (· = c) w w' := by
  have HC:Hid (z0i w c s):=h
  have HF:Hid _:=hf
  have HT:Hid _:=ht
  have HT':Hid _:=ht'
  have hmo:Tryz.prog.follows .mixedOrders=true:=by kernel_rfl
  obtain⟨fs,hfs⟩:=z3f
  have HS:Hid _:=hfs
  have wn:wrap64 n=n:=z0y (by omega) (by omega)
  have HV:Hid (csrS s 1 rd r1 n a wd=csrS s 1 rd r1 n a wd):=rfl
  generalize hS':csrS s 1 rd r1 n a wd=S' at *
  have HS':Hid _:=hS'
  have C1:Hid _:=fun W (hW:z0i W c s)=>mdue hW
  have C2:Hid (∀ w,Calls Tryz.prog 88 #[.agg (z0c s.f s.u),.int .i64 n,.int .i64 s.t,.bool (dueV s)] w fun e w'=>e=.returned (.agg #[.int .u32 (oldV s n),.int .i64 (z2b n)])∧Below w.heap.size w w'):=fun w=>rReadC s.f s.u n s.t (dueV s) w
  have C3:Hid (∀ x,U32 x→∀ w,Calls Tryz.prog 89 #[.agg (z0c s.f s.u),.int .i64 n,.int .u32 x] w fun e w'=>e=.returned (.agg (z2s (z2o s.f n x) s.u (z2y n)))∧Below w.heap.size w w'):=fun x hx w=>rWrite s.f s.u n x hx w
  have r0:(0:Int)≤(rd:Int):=by omega
  have r1':(rd:Int)<32:=by omega
  clear h hf ht ht' hfs hS' hn hn' HV
  go_enter Tryz.func57,Tryz.ntmps57
  go_wp2_with fail
  rw[wn]
  have H1:Hid (z0i (w.alloc (.cells #[.string ⟨#[99,115,114,114,115]⟩,.int .i64 rd,.int .i64 r1,.int .i64 r2,.int .i32 n] 52)) c s):=HC.out.below ((Below.refl _ _).alloc (Nat.le_refl _) _)
  have G1 : Hid (Chg (· = c) w (w.alloc (.cells #[.string ⟨#[99, 115, 114, 114, 115]⟩, .int .i64 rd, .int .i64 r1, .int .i64 r2, .int .i32 n] 52))) := (Chg.refl _ _).alloc _
  have I1:(w.alloc (.cells #[.string ⟨#[99,115,114,114,115]⟩,.int .i64 rd,.int .i64 r1,.int .i64 r2,.int .i32 n] 52)).heap[w.heap.size]?=some (.cells #[.string ⟨#[99,115,114,114,115]⟩,.int .i64 rd,.int .i64 r1,.int .i64 r2,.int .i32 n] 52):=z0g _ _
  have hci:w.heap.size≠c:=by have:=HC.out.lt;omega
  generalize w.alloc (.cells #[.string ⟨#[99,115,114,114,115]⟩,.int .i64 rd,.int .i64 r1,.int .i64 r2,.int .i32 n] 52)=V at *
  generalize w.heap.size=bi at *
  refine z6e [⟨12,9,81,13,26,#[.int .u32 0,.int .i64 0],#[.int .u32 (oldV s n),.int .i64 (z2b n)]⟩]
    [.pointer (some ⟨c,0,none⟩),.pointer (some ⟨c,0,none⟩),.pointer (some ⟨c,1,none⟩),.agg (z0c s.f s.u),.int .i64 n,.pointer (some ⟨c,0,none⟩),.pointer (some ⟨c,0,none⟩),.pointer (some ⟨c,58,none⟩),.int .i64 s.t,.pointer (some ⟨c,0,none⟩),.bool (dueV s),.agg #[.int .u32 (oldV s n),.int .i64 (z2b n)],undef,undef]
    hmo (by kernel_rfl) ?_ ?_ ?_ ?_ ?_
  · intro r hr
    simp only[List.mem_cons,List.not_mem_nil,or_false] at hr
    subst hr
    exact (by decide:9<91)
  · generalize hl:lay _ _ _=af
    have e0:af.tmps[0]?.getD undef=.pointer (some ⟨c,0,none⟩):=by rw[← hl];kernel_rfl
    have e8:af.tmps[8]?.getD undef=.int .i64 n:=by rw[← hl];kernel_rfl
    have e15:af.tmps[15]?.getD undef=.pointer (some ⟨c,0,none⟩):=by rw[← hl];kernel_rfl
    have e16:af.tmps[16]?.getD undef=.pointer (some ⟨c,0,none⟩):=by rw[← hl];kernel_rfl
    have v17:af.eval (.tmp 17)=.pointer (some ⟨c,1,none⟩):=by rw[← hl];kernel_rfl
    have e18:af.tmps[18]?.getD undef=.agg (z0c s.f s.u):=by rw[← hl];kernel_rfl
    have e19:af.tmps[19]?.getD undef=.int .i64 n:=by rw[← hl];kernel_rfl
    have e20:af.tmps[20]?.getD undef=.pointer (some ⟨c,0,none⟩):=by rw[← hl];kernel_rfl
    have e21:af.tmps[21]?.getD undef=.pointer (some ⟨c,0,none⟩):=by rw[← hl];kernel_rfl
    have e22:af.tmps[22]?.getD undef=.pointer (some ⟨c,58,none⟩):=by rw[← hl];kernel_rfl
    have e23:af.tmps[23]?.getD undef=.int .i64 s.t:=by rw[← hl];kernel_rfl
    have e24:af.tmps[24]?.getD undef=.pointer (some ⟨c,0,none⟩):=by rw[← hl];kernel_rfl
    have e25:af.tmps[25]?.getD undef=.bool (dueV s):=by rw[← hl];kernel_rfl
    clear hl
    refine And.intro (fun w' hw=>z0d (by simp[execOp,go_sem,e0])) ?_
    refine And.intro (fun w' hw=>z0d (by simp[execOp,go_sem,e15])) ?_
    refine And.intro (fun w' hw=>z0d (by simp[execOp,go_sem,e16])) ?_
    refine And.intro (fun w' hw=>z8x 32 (.tmp 17) rfl c 1 v17 (z0c s.f s.u) _ (H1.out.below hw).regs HS.out rfl (by rw[z0b];exact z0o)) ?_
    refine And.intro (fun w' hw=>z0d (by simp[execOp,go_sem,e8])) ?_
    refine And.intro (fun w' hw=>z0d (by simp[execOp,go_sem,e0])) ?_
    refine And.intro (fun w' hw=>z0d (by simp[execOp,go_sem,e20])) ?_
    refine And.intro (fun w' hw=>z0d (by simp[execOp,go_sem,e21])) ?_
    refine And.intro (fun w' hw=>by
      have c58:=(H1.out.below hw).cell 58 (by decide)
      have e58:z0l s 58=.int .i64 s.t:=rfl
      rw[e58] at c58
      exact z0d (by simp[execOp,go_sem,e22,c58])) ?_
    refine And.intro (fun w' hw=>z0d (by simp[execOp,go_sem,e0])) ?_
    refine And.intro (fun w' hw=>z1k 28 #[.pointer (some ⟨c,0,none⟩)] (by simp[go_sem,e24]) (C1.out _ (H1.out.below hw))) ?_
    refine And.intro (fun w' hw=>z1k 88 #[.agg (z0c s.f s.u),.int .i64 n,.int .i64 s.t,.bool (dueV s)] (by simp[go_sem,e18,e19,e23,e25]) (C2.out _)) ?_
    exact⟨True.intro,True.intro,True.intro⟩
  · intro r hr
    simp only[List.mem_cons,List.not_mem_nil,or_false] at hr
    subst hr
    exact cgot_alloc
  · intro r hr
    simp only[List.mem_cons,List.not_mem_nil,or_false] at hr
    generalize hl:lay _ _ _=af
    have e26:af.eval (.tmp 26)=.agg #[.int .u32 (oldV s n),.int .i64 (z2b n)]:=by rw[← hl];kernel_rfl
    clear hl
    subst hr
    intro w' b' hb
    rw[e26]
    exact z8v _ _ #[.int .u32 0,.int .i64 0] #[.int .u32 (oldV s n),.int .i64 (z2b n)] cgot_info rfl (by simp[Value.oneCell']) b' hb
  intro β W2 hW hbl _
  have hg2:=(hbl _ (List.mem_cons_self)).2.2
  have hgl:=(hbl _ (List.mem_cons_self)).1
  simp only at hg2 hgl
  simp[z3o,lay,Act.put]
  generalize β 9=bg at *
  have H2:Hid (z0i W2 c s):=H1.out.below hW
  have G2 : Hid (Chg (· = c) w W2) := G1.out.step hW
  have I2:=z0f I1 hW
  have hcg:bg≠c:=by have:=H1.out.lt;omega
  clear hbl hW H1 G1 I1 hgl C1 C2 wn hmo
  have HVa:Hid (z2b n≠0→S'=z1j s 2 wd):=fun h=>by rw[← HS'.out];unfold csrS;rw[if_pos h]
  have HVb:Hid (z2b n=0→r1≠0→z2y n≠0→S'=z1j s 2 wd):=fun h h1 h2=>by rw[← HS'.out];unfold csrS;rw[if_neg (by omega),if_pos (Or.inr h1),if_pos h2]
  have HVc:Hid (z2b n=0→r1≠0→z2y n=0→S'=z2k { s with f:=set1 (z2o s.f n (csrX 1 (oldV s n) a)) rd (oldV s n) } ((z2o s.f n (csrX 1 (oldV s n) a) 32+4)%4294967296) 1):=fun h h1 h2=>by rw[← HS'.out];unfold csrS;rw[if_neg (by omega),if_pos (Or.inr h1),if_neg (by omega)]
  have HVd:Hid (z2b n=0→r1=0→S'=z2k { s with f:=set1 s.f rd (oldV s n) } ((s.f 32+4)%4294967296) 1):=fun h h1=>by rw[← HS'.out];unfold csrS;rw[if_neg (by omega),if_neg (by omega)]
  clear HS'
  obtain⟨gc,_,gl⟩:=z0a hg2
  have g0:=gc 0 (.int .u32 (oldV s n)) rfl
  have g1:=gc 1 (.int .i64 (z2b n)) rfl
  obtain⟨ic,_,il⟩:=z0a I2
  have i0:=ic 0 (.string ⟨#[99,115,114,114,115]⟩) rfl
  have i1:=ic 1 (.int .i64 rd) rfl
  have i2:=ic 2 (.int .i64 r1) rfl
  clear gc ic
  generalize hN:oldV s n=N at *
  generalize hE:z2b n=E at *
  clear hN hE
  by_cases hE:E=0
  · subst hE
    by_cases hr:r1=0
    · have HE:Hid (S'=z2k { s with f:=set1 s.f rd N } ((s.f 32+4)%4294967296) 1):=HVd.out (by simp) hr
      subst hr
      clear HVa HVb HVc
      have IW:=I2
      have GWk:=hg2
      obtain⟨ic,_,il⟩:=z0a IW
      have i1:=ic 1 (.int .i64 rd) rfl
      obtain⟨gc,_,gl⟩:=z0a GWk
      have g0:=gc 0 (.int .u32 N) rfl
      have cr:=H2.out.cell (rd+1) (by omega)
      have er:z0l { s with f:=s.f } (rd+1)=.int .u32 (s.f rd):=by
        unfold z0l
        rw[if_neg (by omega),if_pos (by omega)]
        unfold rv
        rw[if_neg (by omega),Nat.add_sub_cancel]
      rw[er,Nat.add_comm] at cr
      have fr:=H2.out.free (1+rd)
      clear ic gc er
      go_wp2_with fail
      go_region
      have H6:Hid (z0i ((W2.setCell ⟨c,1+rd,none⟩ (.int .u32 N)).drew) c { s with f:=set1 (s.f) rd N }):=by
        rw[Nat.add_comm]
        exact (H2.out.put (rd+1) _ (fun j _=>z8u { s with f:=s.f } rd (by omega) (by omega) N j)).drew
      have G6 : Hid (Chg (· = c) w ((W2.setCell ⟨c, 1 + rd, none⟩ (.int .u32 N)).drew)) := (G2.out.own _).drew
      generalize (W2.setCell ⟨c,1+rd,none⟩ (.int .u32 N)).drew=W6 at *
      have c33:=H6.out.cell 33 (by decide)
      have e33:z0l { s with f:=set1 (s.f) rd N } 33=.int .u32 (s.f 32):=by
        show Value.int .u32 (set1 (s.f) rd N 32)=_
        unfold set1
        rw[if_neg (by omega)]
      rw[e33] at c33
      have CN:Hid _:=fun pc=>z4l H6.out pc 1 HT.out HT'.out (by decide) (by decide)
      clear e33 H6 cr fr
      generalize hq:s.f 32=q at *
      have HQ:Hid _:=hq
      clear hq
      go_wp2_with fail
      refine (CN.out _).mono ?_
      rintro e w7 ⟨rfl,h7,g7⟩
      have H7:Hid _:=h7
      have G7:Hid _:=G6.out.trans g7
      clear h7 g7 CN G6
      go_wp2
      go_end0
      refine⟨rfl,?_,G7.out⟩
      rw[HE.out]
      exact H7.out
    · have nr:(r1 != 0)=true:=by simpa using hr
      have c1:Hid _:=H2.out.regs
      go_wp2_with (first | (refine z0w (by rfl) 32 (.tmp 58) rfl c 1 rfl (z0c s.f s.u) _ c1.out HS.out rfl (by rw[z0b];exact z0o) ?_))
      refine (C3.out (bits .or .u32 N a) (z1t _ _ _) _).mono ?_
      rintro e w3 ⟨rfl,b3⟩
      have H3:Hid _:=H2.out.below b3
      have G3:Hid _:=G2.out.step b3
      have I3:=z0f I2 b3
      have J3:=z0f hg2 b3
      clear b3 H2 G2 I2 hg2 c1 g0 g1 i0 i1 i2
      generalize hF:z2o s.f n (bits .or .u32 N a)=F at *
      generalize hE2:z2y n=E2 at *
      have HFe:Hid _:=hF
      clear hF hE2
      go_wp2_with (first | (refine z4p rfl 138 (.tmp 11) (.tmp 62) rfl rfl (z2s _ _ _) rfl 138 _ (by rw[z0r];exact cwrote_info) (by rw[z0r];rfl) (z2c _ _ _) ?_))
      intro w4 J4 b4
      have H4:Hid _:=H3.out.below b4
      have G4:Hid _:=G3.out.step b4
      have I4:=z0f I3 b4
      have K4:=z0f J3 b4
      have hbw:w3.heap.size≠c:=by have:=H3.out.lt;omega
      generalize w3.heap.size=bw at *
      clear b4 H3 G3 I3 J3
      have l57:=crow58_last J4
      by_cases hE2:E2=0
      · subst hE2
        have HE:Hid (S'=z2k { s with f:=set1 F rd N } ((F 32+4)%4294967296) 1):=by have:=HVc.out (by simp) hr (by simp);rw[← HFe.out];exact this
        clear HVa HVb HVc
        have RG:Hid _:=z8t J4
        go_wp2_with (first | (refine z0w (by rfl) 32 (.tmp 70) rfl bw 0 rfl (z0c F s.u) _ RG.out HS.out rfl (by rw[z0b];exact z0o) ?_) | (refine z1v rfl 32 (.tmp 73) (.tmp 71) rfl c 1 (z0c F s.u) rfl rfl (by rw[z0b];exact H4.out.there) (by rw[z0b];exact z0o) (z0s _ _) ?_))
        have H5:Hid (z0i (w4.setCells c 1 (z0c F s.u).toList) c { s with f:=F }):=H4.out.regsIn F s.u
        have G5 : Hid (Chg (· = c) w (w4.setCells c 1 (z0c F s.u).toList)) := G4.out.owns _
        have IW:=(z1n (z0c F s.u).toList 1 w4 hci).trans I4
        have GWk:=(z1n (z0c F s.u).toList 1 w4 hcg).trans K4
        generalize w4.setCells c 1 (z0c F s.u).toList=W5 at *
        clear H4 G4 I4 K4 J4 l57 RG
        obtain⟨ic,_,il⟩:=z0a IW
        have i1:=ic 1 (.int .i64 rd) rfl
        obtain⟨gc,_,gl⟩:=z0a GWk
        have g0:=gc 0 (.int .u32 N) rfl
        have cr:=H5.out.cell (rd+1) (by omega)
        have er:z0l { s with f:=F } (rd+1)=.int .u32 (F rd):=by
          unfold z0l
          rw[if_neg (by omega),if_pos (by omega)]
          unfold rv
          rw[if_neg (by omega),Nat.add_sub_cancel]
        rw[er,Nat.add_comm] at cr
        have fr:=H5.out.free (1+rd)
        clear ic gc er
        go_wp2_with fail
        go_region
        have H6:Hid (z0i ((W5.setCell ⟨c,1+rd,none⟩ (.int .u32 N)).drew) c { s with f:=set1 (F) rd N }):=by
          rw[Nat.add_comm]
          exact (H5.out.put (rd+1) _ (fun j _=>z8u { s with f:=F } rd (by omega) (by omega) N j)).drew
        have G6 : Hid (Chg (· = c) w ((W5.setCell ⟨c, 1 + rd, none⟩ (.int .u32 N)).drew)) := (G5.out.own _).drew
        generalize (W5.setCell ⟨c,1+rd,none⟩ (.int .u32 N)).drew=W6 at *
        have c33:=H6.out.cell 33 (by decide)
        have e33:z0l { s with f:=set1 (F) rd N } 33=.int .u32 (F 32):=by
          show Value.int .u32 (set1 (F) rd N 32)=_
          unfold set1
          rw[if_neg (by omega)]
        rw[e33] at c33
        have CN:Hid _:=fun pc=>z4l H6.out pc 1 HT.out HT'.out (by decide) (by decide)
        clear e33 H6 cr fr
        generalize hq:F 32=q at *
        have HQ:Hid _:=hq
        clear hq
        go_wp2_with fail
        refine (CN.out _).mono ?_
        rintro e w7 ⟨rfl,h7,g7⟩
        have H7:Hid _:=h7
        have G7:Hid _:=G6.out.trans g7
        clear h7 g7 CN G6
        go_wp2
        go_end0
        refine⟨rfl,?_,G7.out⟩
        rw[HE.out]
        exact H7.out
      · have b2:(E2 != 0)=true:=by simpa using hE2
        have HE:Hid (S'=z1j s 2 wd):=HVb.out (by simp) hr hE2
        clear HVa HVb HVc hE2
        have CF:Hid _:=z3l H4.out HF.out 2 wd HT.out HT'.out
        go_wp2_with fail
        refine Calls.mono CF.out ?_
        rintro e w6 ⟨rfl,h6,g6⟩
        have H6:Hid _:=h6
        have G6:Hid _:=G4.out.trans g6
        clear h6 g6 CF
        go_wp2
        refine bodyPost_ret (results_none rfl _ _ _) rfl ?_
        exact⟨rfl,by rw[HE.out];exact H6.out,G6.out⟩
  · have b0:(E != 0)=true:=by simpa using hE
    have HE:Hid (S'=z1j s 2 wd):=HVa.out hE
    clear HVa HVb HVc hE
    have CF:Hid _:=z3l H2.out HF.out 2 wd HT.out HT'.out
    go_wp2_with fail
    refine Calls.mono CF.out ?_
    rintro e w6 ⟨rfl,h6,g6⟩
    have H6:Hid _:=h6
    have G6:Hid _:=G2.out.trans g6
    clear h6 g6 CF
    go_wp2
    refine bodyPost_ret (results_none rfl _ _ _) rfl ?_
    exact⟨rfl,by rw[HE.out];exact H6.out,G6.out⟩
theorem mcsr_c {w : World} {c : Nat} {s : CS} (h : z0i w c s) (hf : ∀ i, U32 (s.f i)) (ht : 0 ≤ s.t) (ht' : s.t ≤ 1152921504606846976) (rd : Nat) (hrd : rd < 32) (r1 r2 : Int) (n a wd : Int) (hn : 0 ≤ n) (hn' : n < 4096) (_ha : U32 a) :
    Calls Tryz.prog 57 #[.pointer (some ⟨c, 0, none⟩), .agg #[.string ⟨#[99, 115, 114, 114, 99]⟩, .int .i64 rd, .int .i64 r1, .int .i64 r2, .int .i32 n], .int .u32 a, .int .u32 wd] w fun e w' => e = .returned (.tuple #[]) ∧ z0i w' c (csrS s 2 rd r1 n a wd) ∧ Chg (· = c) w w' := by
  have HC:Hid (z0i w c s):=h
  have HF:Hid _:=hf
  have HT:Hid _:=ht
  have HT':Hid _:=ht'
  have hmo:Tryz.prog.follows .mixedOrders=true:=by kernel_rfl
  obtain⟨fs,hfs⟩:=z3f
  have HS:Hid _:=hfs
  have wn:wrap64 n=n:=z0y (by omega) (by omega)
  have HV:Hid (csrS s 2 rd r1 n a wd=csrS s 2 rd r1 n a wd):=rfl
  generalize hS':csrS s 2 rd r1 n a wd=S' at *
  have HS':Hid _:=hS'
  have C1:Hid _:=fun W (hW:z0i W c s)=>mdue hW
  have C2:Hid (∀ w,Calls Tryz.prog 88 #[.agg (z0c s.f s.u),.int .i64 n,.int .i64 s.t,.bool (dueV s)] w fun e w'=>e=.returned (.agg #[.int .u32 (oldV s n),.int .i64 (z2b n)])∧Below w.heap.size w w'):=fun w=>rReadC s.f s.u n s.t (dueV s) w
  have C3:Hid (∀ x,U32 x→∀ w,Calls Tryz.prog 89 #[.agg (z0c s.f s.u),.int .i64 n,.int .u32 x] w fun e w'=>e=.returned (.agg (z2s (z2o s.f n x) s.u (z2y n)))∧Below w.heap.size w w'):=fun x hx w=>rWrite s.f s.u n x hx w
  have r0:(0:Int)≤(rd:Int):=by omega
  have r1':(rd:Int)<32:=by omega
  clear h hf ht ht' hfs hS' hn hn' HV
  go_enter Tryz.func57,Tryz.ntmps57
  go_wp2_with fail
  rw[wn]
  have H1:Hid (z0i (w.alloc (.cells #[.string ⟨#[99,115,114,114,99]⟩,.int .i64 rd,.int .i64 r1,.int .i64 r2,.int .i32 n] 52)) c s):=HC.out.below ((Below.refl _ _).alloc (Nat.le_refl _) _)
  have G1 : Hid (Chg (· = c) w (w.alloc (.cells #[.string ⟨#[99, 115, 114, 114, 99]⟩, .int .i64 rd, .int .i64 r1, .int .i64 r2, .int .i32 n] 52))) := (Chg.refl _ _).alloc _
  have I1:(w.alloc (.cells #[.string ⟨#[99,115,114,114,99]⟩,.int .i64 rd,.int .i64 r1,.int .i64 r2,.int .i32 n] 52)).heap[w.heap.size]?=some (.cells #[.string ⟨#[99,115,114,114,99]⟩,.int .i64 rd,.int .i64 r1,.int .i64 r2,.int .i32 n] 52):=z0g _ _
  have hci:w.heap.size≠c:=by have:=HC.out.lt;omega
  generalize w.alloc (.cells #[.string ⟨#[99,115,114,114,99]⟩,.int .i64 rd,.int .i64 r1,.int .i64 r2,.int .i32 n] 52)=V at *
  generalize w.heap.size=bi at *
  refine z6e [⟨12,9,81,13,26,#[.int .u32 0,.int .i64 0],#[.int .u32 (oldV s n),.int .i64 (z2b n)]⟩]
    [.pointer (some ⟨c,0,none⟩),.pointer (some ⟨c,0,none⟩),.pointer (some ⟨c,1,none⟩),.agg (z0c s.f s.u),.int .i64 n,.pointer (some ⟨c,0,none⟩),.pointer (some ⟨c,0,none⟩),.pointer (some ⟨c,58,none⟩),.int .i64 s.t,.pointer (some ⟨c,0,none⟩),.bool (dueV s),.agg #[.int .u32 (oldV s n),.int .i64 (z2b n)],undef,undef]
    hmo (by kernel_rfl) ?_ ?_ ?_ ?_ ?_
  · intro r hr
    simp only[List.mem_cons,List.not_mem_nil,or_false] at hr
    subst hr
    exact (by decide:9<91)
  · generalize hl:lay _ _ _=af
    have e0:af.tmps[0]?.getD undef=.pointer (some ⟨c,0,none⟩):=by rw[← hl];kernel_rfl
    have e8:af.tmps[8]?.getD undef=.int .i64 n:=by rw[← hl];kernel_rfl
    have e15:af.tmps[15]?.getD undef=.pointer (some ⟨c,0,none⟩):=by rw[← hl];kernel_rfl
    have e16:af.tmps[16]?.getD undef=.pointer (some ⟨c,0,none⟩):=by rw[← hl];kernel_rfl
    have v17:af.eval (.tmp 17)=.pointer (some ⟨c,1,none⟩):=by rw[← hl];kernel_rfl
    have e18:af.tmps[18]?.getD undef=.agg (z0c s.f s.u):=by rw[← hl];kernel_rfl
    have e19:af.tmps[19]?.getD undef=.int .i64 n:=by rw[← hl];kernel_rfl
    have e20:af.tmps[20]?.getD undef=.pointer (some ⟨c,0,none⟩):=by rw[← hl];kernel_rfl
    have e21:af.tmps[21]?.getD undef=.pointer (some ⟨c,0,none⟩):=by rw[← hl];kernel_rfl
    have e22:af.tmps[22]?.getD undef=.pointer (some ⟨c,58,none⟩):=by rw[← hl];kernel_rfl
    have e23:af.tmps[23]?.getD undef=.int .i64 s.t:=by rw[← hl];kernel_rfl
    have e24:af.tmps[24]?.getD undef=.pointer (some ⟨c,0,none⟩):=by rw[← hl];kernel_rfl
    have e25:af.tmps[25]?.getD undef=.bool (dueV s):=by rw[← hl];kernel_rfl
    clear hl
    refine And.intro (fun w' hw=>z0d (by simp[execOp,go_sem,e0])) ?_
    refine And.intro (fun w' hw=>z0d (by simp[execOp,go_sem,e15])) ?_
    refine And.intro (fun w' hw=>z0d (by simp[execOp,go_sem,e16])) ?_
    refine And.intro (fun w' hw=>z8x 32 (.tmp 17) rfl c 1 v17 (z0c s.f s.u) _ (H1.out.below hw).regs HS.out rfl (by rw[z0b];exact z0o)) ?_
    refine And.intro (fun w' hw=>z0d (by simp[execOp,go_sem,e8])) ?_
    refine And.intro (fun w' hw=>z0d (by simp[execOp,go_sem,e0])) ?_
    refine And.intro (fun w' hw=>z0d (by simp[execOp,go_sem,e20])) ?_
    refine And.intro (fun w' hw=>z0d (by simp[execOp,go_sem,e21])) ?_
    refine And.intro (fun w' hw=>by
      have c58:=(H1.out.below hw).cell 58 (by decide)
      have e58:z0l s 58=.int .i64 s.t:=rfl
      rw[e58] at c58
      exact z0d (by simp[execOp,go_sem,e22,c58])) ?_
    refine And.intro (fun w' hw=>z0d (by simp[execOp,go_sem,e0])) ?_
    refine And.intro (fun w' hw=>z1k 28 #[.pointer (some ⟨c,0,none⟩)] (by simp[go_sem,e24]) (C1.out _ (H1.out.below hw))) ?_
    refine And.intro (fun w' hw=>z1k 88 #[.agg (z0c s.f s.u),.int .i64 n,.int .i64 s.t,.bool (dueV s)] (by simp[go_sem,e18,e19,e23,e25]) (C2.out _)) ?_
    exact⟨True.intro,True.intro,True.intro⟩
  · intro r hr
    simp only[List.mem_cons,List.not_mem_nil,or_false] at hr
    subst hr
    exact cgot_alloc
  · intro r hr
    simp only[List.mem_cons,List.not_mem_nil,or_false] at hr
    generalize hl:lay _ _ _=af
    have e26:af.eval (.tmp 26)=.agg #[.int .u32 (oldV s n),.int .i64 (z2b n)]:=by rw[← hl];kernel_rfl
    clear hl
    subst hr
    intro w' b' hb
    rw[e26]
    exact z8v _ _ #[.int .u32 0,.int .i64 0] #[.int .u32 (oldV s n),.int .i64 (z2b n)] cgot_info rfl (by simp[Value.oneCell']) b' hb
  intro β W2 hW hbl _
  have hg2:=(hbl _ (List.mem_cons_self)).2.2
  have hgl:=(hbl _ (List.mem_cons_self)).1
  simp only at hg2 hgl
  simp[z3o,lay,Act.put]
  generalize β 9=bg at *
  have H2:Hid (z0i W2 c s):=H1.out.below hW
  have G2 : Hid (Chg (· = c) w W2) := G1.out.step hW
  have I2:=z0f I1 hW
  have hcg:bg≠c:=by have:=H1.out.lt;omega
  clear hbl hW H1 G1 I1 hgl C1 C2 wn hmo
  have HVa:Hid (z2b n≠0→S'=z1j s 2 wd):=fun h=>by rw[← HS'.out];unfold csrS;rw[if_pos h]
  have HVb:Hid (z2b n=0→r1≠0→z2y n≠0→S'=z1j s 2 wd):=fun h h1 h2=>by rw[← HS'.out];unfold csrS;rw[if_neg (by omega),if_pos (Or.inr h1),if_pos h2]
  have HVc:Hid (z2b n=0→r1≠0→z2y n=0→S'=z2k { s with f:=set1 (z2o s.f n (csrX 2 (oldV s n) a)) rd (oldV s n) } ((z2o s.f n (csrX 2 (oldV s n) a) 32+4)%4294967296) 1):=fun h h1 h2=>by rw[← HS'.out];unfold csrS;rw[if_neg (by omega),if_pos (Or.inr h1),if_neg (by omega)]
  have HVd:Hid (z2b n=0→r1=0→S'=z2k { s with f:=set1 s.f rd (oldV s n) } ((s.f 32+4)%4294967296) 1):=fun h h1=>by rw[← HS'.out];unfold csrS;rw[if_neg (by omega),if_neg (by omega)]
  clear HS'
  obtain⟨gc,_,gl⟩:=z0a hg2
  have g0:=gc 0 (.int .u32 (oldV s n)) rfl
  have g1:=gc 1 (.int .i64 (z2b n)) rfl
  obtain⟨ic,_,il⟩:=z0a I2
  have i0:=ic 0 (.string ⟨#[99,115,114,114,99]⟩) rfl
  have i1:=ic 1 (.int .i64 rd) rfl
  have i2:=ic 2 (.int .i64 r1) rfl
  clear gc ic
  generalize hN:oldV s n=N at *
  generalize hE:z2b n=E at *
  clear hN hE
  by_cases hE:E=0
  · subst hE
    by_cases hr:r1=0
    · have HE:Hid (S'=z2k { s with f:=set1 s.f rd N } ((s.f 32+4)%4294967296) 1):=HVd.out (by simp) hr
      subst hr
      clear HVa HVb HVc
      have IW:=I2
      have GWk:=hg2
      obtain⟨ic,_,il⟩:=z0a IW
      have i1:=ic 1 (.int .i64 rd) rfl
      obtain⟨gc,_,gl⟩:=z0a GWk
      have g0:=gc 0 (.int .u32 N) rfl
      have cr:=H2.out.cell (rd+1) (by omega)
      have er:z0l { s with f:=s.f } (rd+1)=.int .u32 (s.f rd):=by
        unfold z0l
        rw[if_neg (by omega),if_pos (by omega)]
        unfold rv
        rw[if_neg (by omega),Nat.add_sub_cancel]
      rw[er,Nat.add_comm] at cr
      have fr:=H2.out.free (1+rd)
      clear ic gc er
      go_wp2_with fail
      go_region
      have H6:Hid (z0i ((W2.setCell ⟨c,1+rd,none⟩ (.int .u32 N)).drew) c { s with f:=set1 (s.f) rd N }):=by
        rw[Nat.add_comm]
        exact (H2.out.put (rd+1) _ (fun j _=>z8u { s with f:=s.f } rd (by omega) (by omega) N j)).drew
      have G6 : Hid (Chg (· = c) w ((W2.setCell ⟨c, 1 + rd, none⟩ (.int .u32 N)).drew)) := (G2.out.own _).drew
      generalize (W2.setCell ⟨c,1+rd,none⟩ (.int .u32 N)).drew=W6 at *
      have c33:=H6.out.cell 33 (by decide)
      have e33:z0l { s with f:=set1 (s.f) rd N } 33=.int .u32 (s.f 32):=by
        show Value.int .u32 (set1 (s.f) rd N 32)=_
        unfold set1
        rw[if_neg (by omega)]
      rw[e33] at c33
      have CN:Hid _:=fun pc=>z4l H6.out pc 1 HT.out HT'.out (by decide) (by decide)
      clear e33 H6 cr fr
      generalize hq:s.f 32=q at *
      have HQ:Hid _:=hq
      clear hq
      go_wp2_with fail
      refine (CN.out _).mono ?_
      rintro e w7 ⟨rfl,h7,g7⟩
      have H7:Hid _:=h7
      have G7:Hid _:=G6.out.trans g7
      clear h7 g7 CN G6
      go_wp2
      go_end0
      refine⟨rfl,?_,G7.out⟩
      rw[HE.out]
      exact H7.out
    · have nr:(r1 != 0)=true:=by simpa using hr
      have c1:Hid _:=H2.out.regs
      go_wp2_with (first | (refine z0w (by rfl) 32 (.tmp 58) rfl c 1 rfl (z0c s.f s.u) _ c1.out HS.out rfl (by rw[z0b];exact z0o) ?_))
      refine (C3.out (bits .andNot .u32 N a) (z1t _ _ _) _).mono ?_
      rintro e w3 ⟨rfl,b3⟩
      have H3:Hid _:=H2.out.below b3
      have G3:Hid _:=G2.out.step b3
      have I3:=z0f I2 b3
      have J3:=z0f hg2 b3
      clear b3 H2 G2 I2 hg2 c1 g0 g1 i0 i1 i2
      generalize hF:z2o s.f n (bits .andNot .u32 N a)=F at *
      generalize hE2:z2y n=E2 at *
      have HFe:Hid _:=hF
      clear hF hE2
      go_wp2_with (first | (refine z4p rfl 138 (.tmp 11) (.tmp 62) rfl rfl (z2s _ _ _) rfl 138 _ (by rw[z0r];exact cwrote_info) (by rw[z0r];rfl) (z2c _ _ _) ?_))
      intro w4 J4 b4
      have H4:Hid _:=H3.out.below b4
      have G4:Hid _:=G3.out.step b4
      have I4:=z0f I3 b4
      have K4:=z0f J3 b4
      have hbw:w3.heap.size≠c:=by have:=H3.out.lt;omega
      generalize w3.heap.size=bw at *
      clear b4 H3 G3 I3 J3
      have l57:=crow58_last J4
      by_cases hE2:E2=0
      · subst hE2
        have HE:Hid (S'=z2k { s with f:=set1 F rd N } ((F 32+4)%4294967296) 1):=by have:=HVc.out (by simp) hr (by simp);rw[← HFe.out];exact this
        clear HVa HVb HVc
        have RG:Hid _:=z8t J4
        go_wp2_with (first | (refine z0w (by rfl) 32 (.tmp 70) rfl bw 0 rfl (z0c F s.u) _ RG.out HS.out rfl (by rw[z0b];exact z0o) ?_) | (refine z1v rfl 32 (.tmp 73) (.tmp 71) rfl c 1 (z0c F s.u) rfl rfl (by rw[z0b];exact H4.out.there) (by rw[z0b];exact z0o) (z0s _ _) ?_))
        have H5:Hid (z0i (w4.setCells c 1 (z0c F s.u).toList) c { s with f:=F }):=H4.out.regsIn F s.u
        have G5 : Hid (Chg (· = c) w (w4.setCells c 1 (z0c F s.u).toList)) := G4.out.owns _
        have IW:=(z1n (z0c F s.u).toList 1 w4 hci).trans I4
        have GWk:=(z1n (z0c F s.u).toList 1 w4 hcg).trans K4
        generalize w4.setCells c 1 (z0c F s.u).toList=W5 at *
        clear H4 G4 I4 K4 J4 l57 RG
        obtain⟨ic,_,il⟩:=z0a IW
        have i1:=ic 1 (.int .i64 rd) rfl
        obtain⟨gc,_,gl⟩:=z0a GWk
        have g0:=gc 0 (.int .u32 N) rfl
        have cr:=H5.out.cell (rd+1) (by omega)
        have er:z0l { s with f:=F } (rd+1)=.int .u32 (F rd):=by
          unfold z0l
          rw[if_neg (by omega),if_pos (by omega)]
          unfold rv
          rw[if_neg (by omega),Nat.add_sub_cancel]
        rw[er,Nat.add_comm] at cr
        have fr:=H5.out.free (1+rd)
        clear ic gc er
        go_wp2_with fail
        go_region
        have H6:Hid (z0i ((W5.setCell ⟨c,1+rd,none⟩ (.int .u32 N)).drew) c { s with f:=set1 (F) rd N }):=by
          rw[Nat.add_comm]
          exact (H5.out.put (rd+1) _ (fun j _=>z8u { s with f:=F } rd (by omega) (by omega) N j)).drew
        have G6 : Hid (Chg (· = c) w ((W5.setCell ⟨c, 1 + rd, none⟩ (.int .u32 N)).drew)) := (G5.out.own _).drew
        generalize (W5.setCell ⟨c,1+rd,none⟩ (.int .u32 N)).drew=W6 at *
        have c33:=H6.out.cell 33 (by decide)
        have e33:z0l { s with f:=set1 (F) rd N } 33=.int .u32 (F 32):=by
          show Value.int .u32 (set1 (F) rd N 32)=_
          unfold set1
          rw[if_neg (by omega)]
        rw[e33] at c33
        have CN:Hid _:=fun pc=>z4l H6.out pc 1 HT.out HT'.out (by decide) (by decide)
        clear e33 H6 cr fr
        generalize hq:F 32=q at *
        have HQ:Hid _:=hq
        clear hq
        go_wp2_with fail
        refine (CN.out _).mono ?_
        rintro e w7 ⟨rfl,h7,g7⟩
        have H7:Hid _:=h7
        have G7:Hid _:=G6.out.trans g7
        clear h7 g7 CN G6
        go_wp2
        go_end0
        refine⟨rfl,?_,G7.out⟩
        rw[HE.out]
        exact H7.out
      · have b2:(E2 != 0)=true:=by simpa using hE2
        have HE:Hid (S'=z1j s 2 wd):=HVb.out (by simp) hr hE2
        clear HVa HVb HVc hE2
        have CF:Hid _:=z3l H4.out HF.out 2 wd HT.out HT'.out
        go_wp2_with fail
        refine Calls.mono CF.out ?_
        rintro e w6 ⟨rfl,h6,g6⟩
        have H6:Hid _:=h6
        have G6:Hid _:=G4.out.trans g6
        clear h6 g6 CF
        go_wp2
        refine bodyPost_ret (results_none rfl _ _ _) rfl ?_
        exact⟨rfl,by rw[HE.out];exact H6.out,G6.out⟩
  · have b0:(E != 0)=true:=by simpa using hE
    have HE:Hid (S'=z1j s 2 wd):=HVa.out hE
    clear HVa HVb HVc hE
    have CF:Hid _:=z3l H2.out HF.out 2 wd HT.out HT'.out
    go_wp2_with fail
    refine Calls.mono CF.out ?_
    rintro e w6 ⟨rfl,h6,g6⟩
    have H6:Hid _:=h6
    have G6:Hid _:=G2.out.trans g6
    clear h6 g6 CF
    go_wp2
    refine bodyPost_ret (results_none rfl _ _ _) rfl ?_
    exact⟨rfl,by rw[HE.out];exact H6.out,G6.out⟩
def z6q:List (List UInt8 × List UInt8 × Int × Bool):=
  [([97,100,100],[97,100,100],1,false),
   ([115,117,98],[115,117,98],1,false),
   ([115,108,108],[115,108,108],1,false),
   ([115,108,116],[115,108,116],1,false),
   ([115,108,116,117],[115,108,116,117],1,false),
   ([120,111,114],[120,111,114],1,false),
   ([115,114,108],[115,114,108],1,false),
   ([115,114,97],[115,114,97],1,false),
   ([111,114],[111,114],1,false),
   ([97,110,100],[97,110,100],1,false),
   ([109,117,108],[109,117,108],3,false),
   ([109,117,108,104],[109,117,108,104],3,false),
   ([109,117,108,104,115,117],[109,117,108,104,115,117],3,false),
   ([109,117,108,104,117],[109,117,108,104,117],3,false),
   ([100,105,118],[100,105,118],20,false),
   ([100,105,118,117],[100,105,118,117],20,false),
   ([114,101,109],[114,101,109],20,false),
   ([114,101,109,117],[114,101,109,117],20,false),
   ([97,100,100,105],[97,100,100],1,true),
   ([115,108,116,105],[115,108,116],1,true),
   ([115,108,116,105,117],[115,108,116,117],1,true),
   ([120,111,114,105],[120,111,114],1,true),
   ([111,114,105],[111,114],1,true),
   ([97,110,100,105],[97,110,100],1,true),
   ([115,108,108,105],[115,108,108],1,true),
   ([115,114,108,105],[115,114,108],1,true),
   ([115,114,97,105],[115,114,97],1,true)]
def opS (s:CS) (nm:List UInt8) (rd:Nat) (a b cost:Int):CS:=z2k { s with f:=set1 s.f rd (opN nm a b) } ((s.f 32+4)%4294967296) cost
def opC (s:CS) (i:MIns):CS:=match z6q.lookup i.op with
 | some (nm,cost,imm)=>opS s nm i.d.toNat (s.f i.a.toNat) (if imm then i.m%4294967296 else s.f i.b.toNat) cost
 | none=>s
abbrev St:=CS × List Int × List Ev
def z4z (s:CS) (l:List Int) (es:List Ev) (p n x:Int):St:=
 if p%n≠0 then (z1j { s with lat:=p } 6 p,l,es)
 else if s.u=false∧n=4∧p=1073741824 then (onS { s with lat:=1073741824,set:=true,cmp:=s.t+2+x },l,es)
 else if s.u=false∧n=4∧p=1073741828 then (onS { s with lat:=1073741828,task:=x },l,es)
 else if s.u=false∧n=4∧p=1073741832 then (onS { s with lat:=1073741832,kind:=x },l,es)
 else if s.u=false∧n=4∧p=1073741836 then (onS { s with lat:=1073741836 },l,es++[⟨s.task,s.kind,x⟩])
 else if s.u=false∧n=4∧p=1073741840 then (onS { s with lat:=1073741840,stop:=true },l,es)
 else if z5m s p n 1=false then (z1j { s with lat:=p } 7 p,l,es)
 else if askV l.length p n≠0 then (z1j { s with lat:=p } 7 p,l,es)
 else (onS { s with lat:=p },l.set (p/4).toNat (z3h (z0p l (p/4).toNat) p n x),es)
def z4a (s:CS) (is:Bool) (m:Int):CS:={ s with f:=set1 s.f 32 ((s.f 32+(if is then m else 4))%4294967296),t:=s.t+2 }
def retC (s:CS):CS:={ s with f:=retF s.f,u:=retU s.f,t:=s.t+4 }
def wfiC (s:CS):CS:=z2k (if s.set&&decide (s.t<s.cmp) then { s with t:=s.cmp } else s) ((s.f 32+4)%4294967296) 1
def setX (s:CS) (d x:Int):CS:={ s with f:=set1 s.f d.toNat x }
def insC (s:CS) (l:List Int) (es:List Ev) (i:MIns) (x:Int):St:=
 if i.op=[108,117,105] then (z2k (setX s i.d (i.m%4294967296*4096%4294967296)) ((s.f 32+4)%4294967296) 1,l,es)
 else if i.op=[97,117,105,112,99] then (z2k (setX s i.d ((i.m%4294967296*4096+s.f 32)%4294967296)) ((s.f 32+4)%4294967296) 1,l,es)
 else if i.op=[106,97,108] then (z2k (setX s i.d ((s.f 32+4)%4294967296)) ((s.f 32+i.m%4294967296)%4294967296) 2,l,es)
 else if i.op=[106,97,108,114] then (z2k (setX s i.d ((s.f 32+4)%4294967296)) ((s.f i.a.toNat+i.m%4294967296)%4294967296/2*2) 2,l,es)
 else if i.op=[98,101,113] then (z4a s (s.f i.a.toNat==s.f i.b.toNat) (i.m%4294967296),l,es)
 else if i.op=[98,110,101] then (z4a s (s.f i.a.toNat != s.f i.b.toNat) (i.m%4294967296),l,es)
 else if i.op=[98,108,116] then (z4a s (opN [115,108,116] (s.f i.a.toNat) (s.f i.b.toNat)==1) (i.m%4294967296),l,es)
 else if i.op=[98,103,101] then (z4a s (opN [115,108,116] (s.f i.a.toNat) (s.f i.b.toNat)==0) (i.m%4294967296),l,es)
 else if i.op=[98,108,116,117] then (z4a s (decide (s.f i.a.toNat<s.f i.b.toNat)) (i.m%4294967296),l,es)
 else if i.op=[98,103,101,117] then (z4a s (decide (s.f i.b.toNat≤s.f i.a.toNat)) (i.m%4294967296),l,es)
 else if i.op=[108,98] then (z3m s l i.d.toNat ((s.f i.a.toNat+i.m%4294967296)%4294967296) 1 true,l,es)
 else if i.op=[108,104] then (z3m s l i.d.toNat ((s.f i.a.toNat+i.m%4294967296)%4294967296) 2 true,l,es)
 else if i.op=[108,119] then (z3m s l i.d.toNat ((s.f i.a.toNat+i.m%4294967296)%4294967296) 4 true,l,es)
 else if i.op=[108,98,117] then (z3m s l i.d.toNat ((s.f i.a.toNat+i.m%4294967296)%4294967296) 1 false,l,es)
 else if i.op=[108,104,117] then (z3m s l i.d.toNat ((s.f i.a.toNat+i.m%4294967296)%4294967296) 2 false,l,es)
 else if i.op=[115,98] then z4z s l es ((s.f i.a.toNat+i.m%4294967296)%4294967296) 1 (s.f i.b.toNat)
 else if i.op=[115,104] then z4z s l es ((s.f i.a.toNat+i.m%4294967296)%4294967296) 2 (s.f i.b.toNat)
 else if i.op=[115,119] then z4z s l es ((s.f i.a.toNat+i.m%4294967296)%4294967296) 4 (s.f i.b.toNat)
 else if i.op=[99,115,114,114,119] then (csrS s 0 i.d.toNat i.a i.m (s.f i.a.toNat) x,l,es)
 else if i.op=[99,115,114,114,115] then (csrS s 1 i.d.toNat i.a i.m (s.f i.a.toNat) x,l,es)
 else if i.op=[99,115,114,114,99] then (csrS s 2 i.d.toNat i.a i.m (s.f i.a.toNat) x,l,es)
 else if i.op=[109,114,101,116] then (retC s,l,es)
 else if i.op=[119,102,105] then (wfiC s,l,es)
 else if i.op=[102,101,110,99,101] then (z2k s ((s.f 32+4)%4294967296) 1,l,es)
 else if i.op=[101,99,97,108,108] then (z1j s (if s.u then 8 else 11) 0,l,es)
 else if i.op=[101,98,114,101,97,107] then (z1j s 3 (s.f 32),l,es)
 else (opC s i,l,es)
def z7b (i:MIns):Bool:=(z0q i.op).k==67||i.op==[109,114,101,116]||i.op==[119,102,105]
def doC (s:CS) (l:List Int) (es:List Ev):St:=
 if s.f 32%4≠0 then (z1j s 0 (s.f 32),l,es)
 else if z5m s (s.f 32) 4 2=false then (z1j s 1 (s.f 32),l,es)
 else if askV l.length (s.f 32) 4≠0 then (z1j s 1 (s.f 32),l,es)
 else match getV (z1l l (s.f 32) 4 false) with
  | none=>(z1j s 2 (z1l l (s.f 32) 4 false),l,es)
  | some i=>if s.u&&z7b i then (z1j s 2 (z1l l (s.f 32) 4 false),l,es) else insC s l es i (z1l l (s.f 32) 4 false)
def z4f (s:CS) (late:List Int):Int:=if s.came<late.length then max 0 (late.getD s.came.toNat 0) else 0
def z5y (s:CS):Bool:=dueV s&&(s.f 35/128%2==1)&&(s.u||s.f 34/8%2==1)
def z2t (s:CS):CS:={ s with lp:=s.f 32,lat:=0,lt:=s.t }
def z3i (late:List Int) (s:CS) (l:List Int) (es:List Ev):St:=
 if s.stop then (s,l,es)
 else if z5y s then ({ z2t s with f:=z5i s.f s.u 2147483655 0,u:=false,came:=s.came+1,t:=s.t+4+z4f s late },l,es)
 else ({ (doC (z2t s) l es).1 with f:=set1 (doC (z2t s) l es).1.f 0 0 },(doC (z2t s) l es).2.1,(doC (z2t s) l es).2.2)
structure z1q (w:World) (c bm cap B:Nat) (s:CS) (l:List Int) (es:List Ev):Prop where
 core:z0i w c s
 mem:z3x w c s bm cap l
 ev:w.ownsRow B 63 3 s.ev es.length (z5d es)
 cB:c<B
 bB:bm<B
 hB:B≤w.heap.size
structure Fine (s:CS) (es:List Ev):Prop where
 f:∀ i,U32 (s.f i)
 t0:0≤s.t
 t1:s.t≤576460752303423488
 c0:0≤s.cmp
 c1:s.cmp≤576460752303423488+8589934592
 tk:U32 s.task
 kd:U32 s.kind
 en:es.length≤900000
structure Went (w w':World) (c bm cap B:Nat) (s:CS) (r:St):Prop where
 at':∃ ev,z1q w' c bm cap B { r.1 with ev:=ev } r.2.1 r.2.2∧∀ k,ev.ownBlock=some k→s.ev.ownBlock=some k∨w.heap.size≤k
 chg:Chg (fun k=>k=c∨k=bm∨s.ev.ownBlock=some k) w w'
theorem z2z {w w':World} {O:Nat→Prop} {B:Nat} {t:TypeId} {sz n:Nat} {v:Value} {l:List Value} (h:w.ownsRow B t sz v n l) (hc:Chg O w w') (ho:∀ k,v.ownBlock=some k→¬O k):w'.ownsRow B t sz v n l:=by
 obtain⟨h0,h1 | ⟨g,cap,cur,e1,e2,e3,e4,e5,e6,e7⟩⟩:=h
 ·exact⟨h0,Or.inl h1⟩
 ·exact⟨h0,Or.inr ⟨g,cap,cur,e1,e2,hc.kept e3 (ho g (by rw[e1];rfl)),e4,e5,e6,e7⟩⟩
theorem z3k {w:World} {B:Nat} {t:TypeId} {sz n:Nat} {v:Value} {l:List Value} (h:w.ownsRow B t sz v n l) (k:Nat) (hk:v.ownBlock=some k):B≤k∧k<w.heap.size:=by
 obtain⟨_,⟨e1,_⟩ | ⟨g,cap,cur,e1,hg,e3,_⟩⟩:=h
 ·rw[e1] at hk;cases hk
 ·rw[e1] at hk
  simp only[Value.ownBlock,Option.some.injEq] at hk
  subst hk
  exact⟨hg,(Array.getElem?_eq_some_iff.1 e3).1⟩
theorem z0x {w w' : World} {c bm cap B : Nat} {s s' : CS} {l : List Int} {es : List Ev} (h : z1q w c bm cap B s l es) (hc : z0i w' c s') (hg : Chg (· = c) w w') (hm : s'.m = s.m) (he : s'.ev = s.ev) : Went w w' c bm cap B s (s', l, es) := by
  refine⟨⟨s'.ev,⟨hc,h.mem.on hg hm,?_,h.cB,h.bB,Nat.le_trans h.hB hg.size⟩,fun k hk=>Or.inl (by rw[← he];exact hk)⟩,hg.mono fun k _ e=>Or.inl e⟩
  rw[show ({ s' with ev:=s'.ev }:CS).ev=s.ev from he]
  exact z2z h.ev hg (fun k hk e=>by have:=(z3k h.ev k hk).1;have:=h.cB;omega)
theorem went_mem {w w':World} {c bm cap B:Nat} {s s':CS} {l l':List Int} {es:List Ev} (h:z1q w c bm cap B s l es) (hc:z0i w' c s') (hl:z3x w' c s' bm cap l') (hg:Chg (fun k=>k=c∨k=bm) w w') (he:s'.ev=s.ev):Went w w' c bm cap B s (s',l',es):=by
 refine⟨⟨s'.ev,⟨hc,hl,?_,h.cB,h.bB,Nat.le_trans h.hB hg.size⟩,fun k hk=>Or.inl (by rw[← he];exact hk)⟩,hg.mono fun k _ e=>e.elim Or.inl (fun e=>Or.inr (Or.inl e))⟩
 rw[show ({ s' with ev:=s'.ev }:CS).ev=s.ev from he]
 exact z2z h.ev hg (fun k hk e=>by have:=(z3k h.ev k hk).1;have:=h.cB;have:=h.bB;omega)
theorem z1q.on {w w' : World} {c bm cap B : Nat} {s : CS} {l : List Int} {es : List Ev} (h : z1q w c bm cap B s l es) (hc : z0i w' c s) (hg : Chg (· = c) w w') : z1q w' c bm cap B s l es :=
  ⟨hc,h.mem.on hg rfl,z2z h.ev hg (fun k hk e=>by have:=(z3k h.ev k hk).1;have:=h.cB;omega),h.cB,h.bB,Nat.le_trans h.hB hg.size⟩
theorem z6i {w W w' : World} {c bm cap B : Nat} {s : CS} {r : St} (hg : Chg (· = c) w W) (h : Went W w' c bm cap B s r) : Went w w' c bm cap B s r := by
  obtain⟨⟨ev,h1,h2⟩,h3⟩:=h
  exact⟨⟨ev,h1,fun k hk=>(h2 k hk).elim Or.inl (fun e=>Or.inr (Nat.le_trans hg.size e))⟩,(hg.mono fun k _ e=>Or.inl e).trans h3⟩
theorem dstore {w:World} {c bm cap B:Nat} {s:CS} {l:List Int} {es:List Ev} (h:z1q w c bm cap B s l es) (hF:Fine s es) (p n x:Int) (hp:U32 p) (hn:n=1∨n=2∨n=4) (hx:U32 x) :
  Calls Tryz.prog 56 #[.pointer (some ⟨c,0,none⟩),.int .u32 p,.int .i64 n,.int .u32 x] w fun e w'=>e=.returned (.tuple #[])∧Went w w' c bm cap B s (z4z s l es p n x):=by
 have ht:=hF.t0
 have ht':s.t≤1152921504606846976:=by have:=hF.t1;omega
 have hask:askV l.length p n=0∨askV l.length p n=2∨p%n≠0:=by
  unfold askV
  rw[if_neg (by rw[(z7f n).2 hn];decide)]
  by_cases h1:p%n≠0
  ·exact Or.inr (Or.inr h1)
  ·rw[if_neg h1];split
   ·exact Or.inr (Or.inl rfl)
   ·exact Or.inl rfl
 unfold z4z
 by_cases h1:p%n≠0
 ·rw[if_pos h1]
  exact (mstore_odd h.core hF.f ht ht' p n x hp hn h1).mono fun e w' ⟨q1,q2,q3⟩=>⟨q1,z0x h q2 q3 rfl rfl⟩
 rw[if_neg h1]
 have h1:p%n=0:=Classical.not_not.mp h1
 by_cases d1:s.u=false∧n=4∧p=1073741824
 ·rw[if_pos d1]
  obtain⟨q0,rfl,rfl⟩:=d1
  exact (mstore_cmp h.core hF.f ht ht' x hx q0).mono fun e w' ⟨q1,q2,q3⟩=>⟨q1,z0x h q2 q3 rfl rfl⟩
 rw[if_neg d1]
 by_cases d2:s.u=false∧n=4∧p=1073741828
 ·rw[if_pos d2]
  obtain⟨q0,rfl,rfl⟩:=d2
  exact (mstore_task h.core hF.f ht ht' x q0).mono fun e w' ⟨q1,q2,q3⟩=>⟨q1,z0x h q2 q3 rfl rfl⟩
 rw[if_neg d2]
 by_cases d3:s.u=false∧n=4∧p=1073741832
 ·rw[if_pos d3]
  obtain⟨q0,rfl,rfl⟩:=d3
  exact (mstore_kind h.core hF.f ht ht' x q0).mono fun e w' ⟨q1,q2,q3⟩=>⟨q1,z0x h q2 q3 rfl rfl⟩
 rw[if_neg d3]
 by_cases d4:s.u=false∧n=4∧p=1073741836
 ·rw[if_pos d4]
  obtain⟨q0,rfl,rfl⟩:=d4
  refine (mstore_say h.core h.ev h.cB h.hB (by have:=hF.en;omega) hF.tk hF.kd ht ht' x q0).mono fun e w' ⟨q1,ev,q2,q3,q4,q5⟩=>⟨q1,⟨⟨ev,⟨q2,?_,?_,h.cB,h.bB,Nat.le_trans h.hB q4.size⟩,q5⟩,q4.mono fun k _ e=>e.elim Or.inl (fun e=>Or.inr (Or.inr e))⟩⟩
  ·have hb:=q4.block bm h.mem.lt (fun e=>by
    rcases e with e | e
    ·exact h.mem.ne e
    ·have:=(z3k h.ev bm e).1;have:=h.bB;omega)
   exact⟨h.mem.m,fun i hi=>by rw[World.cell?_of_block hb];exact h.mem.mem i hi,fun i=>by have:=h.mem.free i;simp only[World.frozen?,hb] at this ⊢;exact this,Nat.lt_of_lt_of_le h.mem.lt q4.size,h.mem.ne,h.mem.u,h.mem.len⟩
  ·rw[show (es++[(⟨s.task,s.kind,x⟩:Ev)]).length=es.length+1 by simp]
   exact q3
 rw[if_neg d4]
 by_cases d5:s.u=false∧n=4∧p=1073741840
 ·rw[if_pos d5]
  obtain⟨q0,rfl,rfl⟩:=d5
  exact (mstore_stop h.core hF.f ht ht' x q0).mono fun e w' ⟨q1,q2,q3⟩=>⟨q1,z0x h q2 q3 rfl rfl⟩
 rw[if_neg d5]
 have ha:askV l.length p n=0∨askV l.length p n=2:=by
  rcases hask with q | q | q
  ·exact Or.inl q
  ·exact Or.inr q
  ·exact absurd h1 q
 rcases (show s.u=false∨s.u=true by cases s.u <;> simp) with hu | hu
 ·have hl:z5m s p n 1=true:=by unfold z5m;rw[hu];rfl
  rw[if_neg (by rw[hl];decide)]
  have hd:n=4→p<1073741824∨1073741840<p:=fun e=>by
   subst e
   by_cases q:p<1073741824∨1073741840<p
   ·exact q
   ·exfalso
    have q1:p=1073741824∨p=1073741828∨p=1073741832∨p=1073741836∨p=1073741840:=by omega
    rcases q1 with q1 | q1 | q1 | q1 | q1
    ·exact d1 ⟨hu,rfl,q1⟩
    ·exact d2 ⟨hu,rfl,q1⟩
    ·exact d3 ⟨hu,rfl,q1⟩
    ·exact d4 ⟨hu,rfl,q1⟩
    ·exact d5 ⟨hu,rfl,q1⟩
  rcases ha with ha | ha
  ·rw[if_neg (by rw[ha];decide)]
   by_cases h4:n=4
   ·exact (mstore_word_in h.core h.mem hF.f ht ht' p n x hp hn hx h1 hu h4 (hd h4) ha).mono fun e w' ⟨q1,q2,q3,q4⟩=>⟨q1,went_mem h q2 q3 q4 rfl⟩
   ·exact (mstore_part_in h.core h.mem hF.f ht ht' p n x hp hn hx h1 hu h4 ha).mono fun e w' ⟨q1,q2,q3,q4⟩=>⟨q1,went_mem h q2 q3 q4 rfl⟩
  ·rw[if_pos (by rw[ha];decide)]
   by_cases h4:n=4
   ·exact (mstore_word_out h.core h.mem hF.f ht ht' p n x hp hn hx h1 hu h4 (hd h4) ha).mono fun e w' ⟨q1,q2,q3⟩=>⟨q1,z0x h q2 q3 rfl rfl⟩
   ·exact (mstore_part_out h.core h.mem hF.f ht ht' p n x hp hn hx h1 hu h4 ha).mono fun e w' ⟨q1,q2,q3⟩=>⟨q1,z0x h q2 q3 rfl rfl⟩
 ·have hl:z5m s p n 1=z2m (ofV (gw s.f)) p n 1:=by unfold z5m;rw[hu];rfl
  rw[hl]
  cases hal:z2m (ofV (gw s.f)) p n 1
  ·rw[if_pos rfl]
   exact (mstore_no h.core h.mem hF.f ht ht' p n x hp hn hx h1 hu hal).mono fun e w' ⟨q1,q2,q3⟩=>⟨q1,z0x h q2 q3 rfl rfl⟩
  ·rw[if_neg (by decide)]
   rcases ha with ha | ha
   ·rw[if_neg (by rw[ha];decide)]
    exact (mstore_user_in h.core h.mem hF.f ht ht' p n x hp hn hx h1 hu hal ha).mono fun e w' ⟨q1,q2,q3,q4⟩=>⟨q1,went_mem h q2 q3 q4 rfl⟩
   ·rw[if_pos (by rw[ha];decide)]
    exact (mstore_user_out h.core h.mem hF.f ht ht' p n x hp hn hx h1 hu hal ha).mono fun e w' ⟨q1,q2,q3⟩=>⟨q1,z0x h q2 q3 rfl rfl⟩
theorem insC_lui (s:CS) (l:List Int) (es:List Ev) (d a b:Nat) (m x:Int):insC s l es ⟨[108,117,105],d,a,b,m⟩ x=(z2k (setX s d (m%4294967296*4096%4294967296)) ((s.f 32+4)%4294967296) 1,l,es):=rfl
theorem insC_auipc (s:CS) (l:List Int) (es:List Ev) (d a b:Nat) (m x:Int):insC s l es ⟨[97,117,105,112,99],d,a,b,m⟩ x=(z2k (setX s d ((m%4294967296*4096+s.f 32)%4294967296)) ((s.f 32+4)%4294967296) 1,l,es):=rfl
theorem insC_jal (s:CS) (l:List Int) (es:List Ev) (d a b:Nat) (m x:Int):insC s l es ⟨[106,97,108],d,a,b,m⟩ x=(z2k (setX s d ((s.f 32+4)%4294967296)) ((s.f 32+m%4294967296)%4294967296) 2,l,es):=rfl
theorem insC_jalr (s:CS) (l:List Int) (es:List Ev) (d a b:Nat) (m x:Int):insC s l es ⟨[106,97,108,114],d,a,b,m⟩ x=(z2k (setX s d ((s.f 32+4)%4294967296)) ((s.f a+m%4294967296)%4294967296/2*2) 2,l,es):=rfl
theorem insC_beq (s:CS) (l:List Int) (es:List Ev) (d a b:Nat) (m x:Int):insC s l es ⟨[98,101,113],d,a,b,m⟩ x=(z4a s (s.f a==s.f b) (m%4294967296),l,es):=rfl
theorem insC_bne (s:CS) (l:List Int) (es:List Ev) (d a b:Nat) (m x:Int):insC s l es ⟨[98,110,101],d,a,b,m⟩ x=(z4a s (s.f a != s.f b) (m%4294967296),l,es):=rfl
theorem insC_blt (s:CS) (l:List Int) (es:List Ev) (d a b:Nat) (m x:Int):insC s l es ⟨[98,108,116],d,a,b,m⟩ x=(z4a s (opN [115,108,116] (s.f a) (s.f b)==1) (m%4294967296),l,es):=rfl
theorem insC_bge (s:CS) (l:List Int) (es:List Ev) (d a b:Nat) (m x:Int):insC s l es ⟨[98,103,101],d,a,b,m⟩ x=(z4a s (opN [115,108,116] (s.f a) (s.f b)==0) (m%4294967296),l,es):=rfl
theorem insC_bltu (s:CS) (l:List Int) (es:List Ev) (d a b:Nat) (m x:Int):insC s l es ⟨[98,108,116,117],d,a,b,m⟩ x=(z4a s (decide (s.f a<s.f b)) (m%4294967296),l,es):=rfl
theorem insC_bgeu (s:CS) (l:List Int) (es:List Ev) (d a b:Nat) (m x:Int):insC s l es ⟨[98,103,101,117],d,a,b,m⟩ x=(z4a s (decide (s.f b≤s.f a)) (m%4294967296),l,es):=rfl
theorem insC_lb (s:CS) (l:List Int) (es:List Ev) (d a b:Nat) (m x:Int):insC s l es ⟨[108,98],d,a,b,m⟩ x=(z3m s l d ((s.f a+m%4294967296)%4294967296) 1 true,l,es):=rfl
theorem insC_lh (s:CS) (l:List Int) (es:List Ev) (d a b:Nat) (m x:Int):insC s l es ⟨[108,104],d,a,b,m⟩ x=(z3m s l d ((s.f a+m%4294967296)%4294967296) 2 true,l,es):=rfl
theorem insC_lw (s:CS) (l:List Int) (es:List Ev) (d a b:Nat) (m x:Int):insC s l es ⟨[108,119],d,a,b,m⟩ x=(z3m s l d ((s.f a+m%4294967296)%4294967296) 4 true,l,es):=rfl
theorem insC_lbu (s:CS) (l:List Int) (es:List Ev) (d a b:Nat) (m x:Int):insC s l es ⟨[108,98,117],d,a,b,m⟩ x=(z3m s l d ((s.f a+m%4294967296)%4294967296) 1 false,l,es):=rfl
theorem insC_lhu (s:CS) (l:List Int) (es:List Ev) (d a b:Nat) (m x:Int):insC s l es ⟨[108,104,117],d,a,b,m⟩ x=(z3m s l d ((s.f a+m%4294967296)%4294967296) 2 false,l,es):=rfl
theorem insC_sb (s:CS) (l:List Int) (es:List Ev) (d a b:Nat) (m x:Int):insC s l es ⟨[115,98],d,a,b,m⟩ x=z4z s l es ((s.f a+m%4294967296)%4294967296) 1 (s.f b):=rfl
theorem insC_sh (s:CS) (l:List Int) (es:List Ev) (d a b:Nat) (m x:Int):insC s l es ⟨[115,104],d,a,b,m⟩ x=z4z s l es ((s.f a+m%4294967296)%4294967296) 2 (s.f b):=rfl
theorem insC_sw (s:CS) (l:List Int) (es:List Ev) (d a b:Nat) (m x:Int):insC s l es ⟨[115,119],d,a,b,m⟩ x=z4z s l es ((s.f a+m%4294967296)%4294967296) 4 (s.f b):=rfl
theorem insC_csrrw (s:CS) (l:List Int) (es:List Ev) (d a b:Nat) (m x:Int):insC s l es ⟨[99,115,114,114,119],d,a,b,m⟩ x=(csrS s 0 d a m (s.f a) x,l,es):=rfl
theorem insC_csrrs (s:CS) (l:List Int) (es:List Ev) (d a b:Nat) (m x:Int):insC s l es ⟨[99,115,114,114,115],d,a,b,m⟩ x=(csrS s 1 d a m (s.f a) x,l,es):=rfl
theorem insC_csrrc (s:CS) (l:List Int) (es:List Ev) (d a b:Nat) (m x:Int):insC s l es ⟨[99,115,114,114,99],d,a,b,m⟩ x=(csrS s 2 d a m (s.f a) x,l,es):=rfl
theorem insC_mret (s:CS) (l:List Int) (es:List Ev) (d a b:Nat) (m x:Int):insC s l es ⟨[109,114,101,116],d,a,b,m⟩ x=(retC s,l,es):=rfl
theorem insC_wfi (s:CS) (l:List Int) (es:List Ev) (d a b:Nat) (m x:Int):insC s l es ⟨[119,102,105],d,a,b,m⟩ x=(wfiC s,l,es):=rfl
theorem insC_fence (s:CS) (l:List Int) (es:List Ev) (d a b:Nat) (m x:Int):insC s l es ⟨[102,101,110,99,101],d,a,b,m⟩ x=(z2k s ((s.f 32+4)%4294967296) 1,l,es):=rfl
theorem insC_ecall (s:CS) (l:List Int) (es:List Ev) (d a b:Nat) (m x:Int):insC s l es ⟨[101,99,97,108,108],d,a,b,m⟩ x=(z1j s (if s.u then 8 else 11) 0,l,es):=rfl
theorem insC_ebreak (s:CS) (l:List Int) (es:List Ev) (d a b:Nat) (m x:Int):insC s l es ⟨[101,98,114,101,97,107],d,a,b,m⟩ x=(z1j s 3 (s.f 32),l,es):=rfl
end Go.Proofs.YtbmnmbkgdalkcaaGreatDoor
