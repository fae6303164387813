/-
  Contracts of functions that the statement reaches, and what they are made of, callees first.
-/
import Derived.Test.YtilcoimelnpkeaaGreatDoorPzb
import Derived.Test.YtilcoimelnpkeaaGreatDoorPzh
set_option maxRecDepth 100000
set_option maxHeartbeats 8000000
namespace Go.Proofs.YtilcoimelnpkeaaGreatDoor
open Go.RowKit
def noEv:Ev:=⟨0,0,0⟩
def evAt (es:List Ev) (i:Nat):Ev:=es.getD i noEv
structure Evs (w:World) (v:Value) (es:List Ev):Prop where
 is:∃ sa cap b off,v=.slice sa es.length cap∧(0<es.length→sa=some ⟨b,off,none⟩∧b<w.heap.size∧∀ i,i<es.length→w.cell? ⟨b,off+i*3,none⟩=some (.int .i64 (evAt es i).task)∧w.cell? ⟨b,off+i*3+1,none⟩=some (.int .i64 (evAt es i).kind)∧w.cell? ⟨b,off+i*3+2,none⟩=some (.int .u32 (evAt es i).n))
theorem Evs.below {w w':World} {v:Value} {es:List Ev} (h:Evs w v es) (hb:Below w.heap.size w w'):Evs w' v es:=by
 obtain⟨sa,cap,b,off,h1,h2⟩:=h.is
 refine⟨sa,cap,b,off,h1,fun hl=>?_⟩
 obtain⟨q1,q2,q3⟩:=h2 hl
 refine⟨q1,Nat.lt_of_lt_of_le q2 hb.size,fun i hi=>?_⟩
 obtain⟨r1,r2,r3⟩:=q3 i hi
 exact⟨by rw[hb.cell (p:=⟨b,off+i*3,none⟩) q2];exact r1,by rw[hb.cell (p:=⟨b,off+i*3+1,none⟩) q2];exact r2,by rw[hb.cell (p:=⟨b,off+i*3+2,none⟩) q2];exact r3⟩
theorem evrow_at (es:List Ev):∀ (i k:Nat),i<es.length→k<3→(z5d es)[i*3+k]?=(z5p (evAt es i))[k]?:=by
 induction es with
 | nil=>intro i k h;cases h
 | cons e es ih=>
  intro i k hi hk
  have he:z5d (e::es)=z5p e++z5d es:=rfl
  have hl:(z5p e).length=3:=rfl
  rw[he]
  cases i with
  | zero=>
   rw[Nat.zero_mul,Nat.zero_add,List.getElem?_append_left (by rw[hl];exact hk)]
   rfl
  | succ i=>
   rw[List.getElem?_append_right (by rw[hl];omega),hl,show (i+1)*3+k-3=i*3+k by omega]
   exact ih i k (by simpa using hi) hk
theorem evs_of {w:World} {B:Nat} {v:Value} {es:List Ev} (h:w.ownsRow B 49 3 v es.length (z5d es)):Evs w v es:=by
 obtain⟨_,⟨e1,e2⟩ | ⟨g,cap,cur,e1,e2,e3,e4,e5,e6,e7⟩⟩:=h
 ·exact⟨none,0,0,0,by rw[e1,e2],fun hl=>by omega⟩
 ·refine⟨some ⟨g,0,none⟩,cap,g,0,e1,fun hl=>⟨rfl,(z0a e3).2.2,fun i hi=>?_⟩⟩
  have hk:∀ k v,k<3→(z5p (evAt es i))[k]?=some v→w.cell? ⟨g,i*3+k,none⟩=some v:=fun k v hk hv=>by
   refine (z0a e3).1 _ _ ?_
   rw[← evrow_at es i k hi hk,← e7,List.getElem?_take,if_pos (by omega)] at hv
   rw[← Array.getElem?_toList]
   exact hv
  rw[Nat.zero_add]
  exact⟨hk 0 _ (by decide) rfl,hk 1 _ (by decide) rfl,hk 2 _ (by decide) rfl⟩
structure z9l (w:World) (v:Value) (late:List Int):Prop where
 is:∃ sa cap bl off,v=.slice sa late.length cap∧(0<late.length→sa=some ⟨bl,off,none⟩∧bl<w.heap.size∧∀ i,i<late.length→w.cell? ⟨bl,off+i,none⟩=some (.int .i64 (late.getD i 0)))
structure Going (late:List Int) (s:CS) (l:List Int) (es:List Ev):Prop where
 fine:Fine s es
 mem:∀ i,U32 (z0p l i)
 pos:0<l.length
 len:l.length≤1000
 c0:0≤s.came
 c1:s.came≤1000000
 more:z4f s late≤1099511627776
abbrev z6d:=World→Nat→(Nat→Prop)→CS→List Int→List Ev→List Int→Prop
structure CoreK (Is:z6d):Prop where
 keep:∀ {w w':World} {p:Nat} {F O:Nat→Prop} {s:CS} {l:List Int} {es:List Ev} {late:List Int},Is w p F s l es late→Chg O w w'→(∀ k,O k→¬F k)→Is w' p F s l es late
 lt:∀ {w:World} {p:Nat} {F:Nat→Prop} {s:CS} {l:List Int} {es:List Ev} {late:List Int},Is w p F s l es late→∀ k,F k→k<w.heap.size
 any:∀ {w:World} {p:Nat} {F:Nat→Prop} {s:CS} {l:List Int} {es:List Ev} {late:List Int} (m la ev:Value),Is w p F s l es late→Is w p F { s with m:=m,la:=la,ev:=ev } l es late
 new:∀ (b off cp:Nat) (l:List Int) (v:Value) (late:List Int) (w:World),0<l.length→l.length≤1000→(∀ i,U32 (z0p l i))→b<w.heap.size→(∀ i,i<l.length→w.cell? ⟨b,off+i,none⟩=some (.int .u32 (z0p l i)))→z9l w v late→late.length≤1000→
  Calls Tryz.prog 11 #[.slice (some ⟨b,off,none⟩) l.length cp,v] w fun e w'=>∃ p F,e=.returned (.tuple #[.pointer (some ⟨p,0,none⟩),.int .i64 0])∧Is w' p F (newC undef undef) l [] late∧Below w.heap.size w w'∧∀ k,F k→w.heap.size≤k
 nothing:∀ (sa:Option Addr) (cp:Nat) (v:Value) (late:List Int) (w:World),z9l w v late→
  Calls Tryz.prog 11 #[.slice sa 0 cp,v] w fun e w'=>e=.returned (.tuple #[.pointer none,.int .i64 1])∧Below w.heap.size w w'
 step:∀ {w:World} {p:Nat} {F:Nat→Prop} {s:CS} {l:List Int} {es:List Ev} {late:List Int},Is w p F s l es late→Going late s l es→
  Calls Tryz.prog 16 #[.pointer (some ⟨p,0,none⟩)] w fun e w'=>e=.returned (.bool (!s.stop))∧∃ F',Is w' p F' (z3i late s l es).1 (z3i late s l es).2.1 (z3i late s l es).2.2 late∧Chg F w w'∧∀ k,F' k→F k∨w.heap.size≤k
 put:∀ {w:World} {p:Nat} {F:Nat→Prop} {s:CS} {l:List Int} {es:List Ev} {late:List Int},Is w p F s l es late→∀ (f:Nat→Int) (u:Bool),(∀ i,U32 (f i))→
  Calls Tryz.prog 15 #[.pointer (some ⟨p,0,none⟩),.agg (z0c f u)] w fun e w'=>e=.returned (.tuple #[])∧∃ F',Is w' p F' { s with f:=set1 f 0 0,u:=u } l es late∧Chg F w w'∧∀ k,F' k→F k∨w.heap.size≤k
 regs:∀ {w:World} {p:Nat} {F:Nat→Prop} {s:CS} {l:List Int} {es:List Ev} {late:List Int},Is w p F s l es late→
  Calls Tryz.prog 18 #[.pointer (some ⟨p,0,none⟩)] w fun e w'=>e=.returned (.agg (z0c s.f s.u))∧Below w.heap.size w w'
 time:∀ {w:World} {p:Nat} {F:Nat→Prop} {s:CS} {l:List Int} {es:List Ev} {late:List Int},Is w p F s l es late→
  Calls Tryz.prog 17 #[.pointer (some ⟨p,0,none⟩)] w fun e w'=>e=.returned (.int .i64 s.t)∧Below w.heap.size w w'
 word:∀ {w:World} {p:Nat} {F:Nat→Prop} {s:CS} {l:List Int} {es:List Ev} {late:List Int},Is w p F s l es late→∀ x,U32 x→
  Calls Tryz.prog 21 #[.pointer (some ⟨p,0,none⟩),.int .u32 x] w fun e w'=>e=.returned (.tuple #[.int .u32 (z2r l.length l x 4 false),.int .i64 (askV l.length x 4)])∧Below w.heap.size w w'
 leak:∀ {w:World} {p:Nat} {F:Nat→Prop} {s:CS} {l:List Int} {es:List Ev} {late:List Int},Is w p F s l es late→
  Calls Tryz.prog 22 #[.pointer (some ⟨p,0,none⟩)] w fun e w'=>e=.returned (.agg #[.int .u32 s.lp,.int .u32 s.lat,.int .i64 s.lt])∧Below w.heap.size w w'
 events:∀ {w:World} {p:Nat} {F:Nat→Prop} {s:CS} {l:List Int} {es:List Ev} {late:List Int},Is w p F s l es late→es.length≤1000000→
  Calls Tryz.prog 20 #[.pointer (some ⟨p,0,none⟩)] w fun e w'=>∃ v,e=.returned v∧Evs w' v es∧Below w.heap.size w w'
structure NilK:Prop where
 step:∀ w:World,Calls Tryz.prog 16 #[.pointer none] w fun e w'=>e=.returned (.bool false)∧Below w.heap.size w w'
 put:∀ (f:Nat→Int) (u:Bool) (w:World),Calls Tryz.prog 15 #[.pointer none,.agg (z0c f u)] w fun e w'=>e=.returned (.tuple #[])∧Below w.heap.size w w'
 regs:∀ w:World,Calls Tryz.prog 18 #[.pointer none] w fun e w'=>e=.returned (.agg (z0c (fun _=>0) false))∧Below w.heap.size w w'
 time:∀ w:World,Calls Tryz.prog 17 #[.pointer none] w fun e w'=>e=.returned (.int .i64 0)∧Below w.heap.size w w'
 word:∀ (x:Int) (w:World),Calls Tryz.prog 21 #[.pointer none,.int .u32 x] w fun e w'=>e=.returned (.tuple #[.int .u32 0,.int .i64 2])∧Below w.heap.size w w'
 leak:∀ w:World,Calls Tryz.prog 22 #[.pointer none] w fun e w'=>e=.returned (.agg #[.int .u32 0,.int .u32 0,.int .i64 0])∧Below w.heap.size w w'
 events:∀ w:World,Calls Tryz.prog 20 #[.pointer none] w fun e w'=>∃ v,e=.returned v∧Evs w' v []∧Below w.heap.size w w'
theorem CoreK.below {Is:z6d} (K:CoreK Is) {w w':World} {p:Nat} {F:Nat→Prop} {s:CS} {l:List Int} {es:List Ev} {late:List Int} (h:Is w p F s l es late) (hb:Below w.heap.size w w'):Is w' p F s l es late:=
 K.keep (O:=fun _=>False) h (Chg.of hb) (fun _ e=>e.elim)
theorem zErr6 (n:Int) (w:World):Calls Tryz.prog 13 #[.int .i64 n] w fun e w'=>e=.returned (.int .i64 n)∧w'=w:=by
 go_enter Tryz.func13,Tryz.ntmps13
 go_wp2
 go_ret
 exact⟨rfl,rfl⟩
theorem bits_all {x:Int} (h:U32 x):z0j x 0 32=x:=by
 have:=z0t h 0 32 (by decide) (by decide) (by decide)
 rw[show ((0:Nat):Int)=0 from rfl,show ((32:Nat):Int)=32 from rfl] at this
 rw[this]
 obtain⟨h0,h1⟩:=h
 omega
theorem load_word {l:List Int} (hu:∀ i,U32 (z0p l i)) (k:Nat):z1l l (4*(k:Int)) 4 false=z0p l k:=by
 unfold z1l
 rw[if_neg (by decide),show (4*(k:Int)/4).toNat=k by omega,show 4*(k:Int)%4*8=0 by omega,show (8*4:Int)=32 from rfl]
 exact bits_all (hu k)
theorem ask_word {n k:Nat} (h:k<n):askV n (4*(k:Int)) 4=0:=by
 unfold askV
 rw[if_neg (by decide),if_neg (by omega),if_neg (by omega)]
theorem new_going (l:List Int) (hu:∀ i,U32 (z0p l i)) (h0:0<l.length) (h1:l.length≤1000) (m la:Value) (late:List Int) (hm:z4f (newC m la) late≤1099511627776):Going late (newC m la) l []:=
 ⟨⟨fun _=>⟨Int.le_refl _,by show (0:Int)<4294967296;decide⟩,Int.le_refl _,by show (0:Int)≤576460752303423488;decide,Int.le_refl _,by show (0:Int)≤576460752303423488+8589934592;decide,⟨Int.le_refl _,by show (0:Int)<4294967296;decide⟩,⟨Int.le_refl _,by show (0:Int)<4294967296;decide⟩,Nat.zero_le _⟩,hu,h0,h1,Int.le_refl _,by show (0:Int)≤1000000;decide,hm⟩
theorem fence_step:(z3i [] (newC undef undef) [15] []).1.t=1∧(z3i [] (newC undef undef) [15] []).1.f 32=4:=by decide +kernel
theorem fldPC (f:Nat→Int) (u:Bool) (w:World):(Instr.field 37 (.agg (z0c f u)) 1).run Tryz.prog w=.ok (.int .u32 (f 32)) w:=by kernel_rfl
theorem kawake6 {Is:z6d} (K:CoreK Is) (w:World) :
  Calls Tryz.prog 19 #[] w fun e w'=>e=.returned (.bool true)∧Below w.heap.size w w':=by
 have HK:Hid _:=K
 have hbs:∀ w,(Instr.buildSlice 22 1 #[(0,.int .u32 15)]).run Tryz.prog w=.ok (.slice (some ⟨w.heap.size,0,none⟩) 1 1) (w.alloc (.cells #[.int .u32 15] 31)):=fun w=>by kernel_rfl
 have hu:∀ i,U32 (z0p [15] i):=fun i=>by
  unfold z0p
  cases i with
  | zero=>exact⟨by decide,by decide⟩
  | succ i=>exact⟨by simp,by simp⟩
 have CN:Hid _:=K.new w.heap.size 0 1 [15] (.slice none 0 0) [] (w.alloc (.cells #[.int .u32 15] 31)) (by decide) (by decide) hu (by simp) (fun i hi=>by
  have:i=0:=by simpa using hi
  subst this
  exact (z0a (z0g w _)).1 0 _ rfl) ⟨none,0,0,0,rfl,fun h=>absurd h (by decide)⟩ (by decide)
 have HU:Hid _:=hu
 have FP:=fldPC
 clear K hu
 go_enter Tryz.func19,Tryz.ntmps19
 go_wp2_with fail
 refine Calls.mono CN.out ?_
 rintro e w1 ⟨p,F,rfl,h1,b1,f1⟩
 have B1:Hid _:=z1u b1
 have CS1:Hid _:=HK.out.step h1 (new_going [15] HU.out (by decide) (by decide) undef undef [] (by decide))
 have f1:Hid _:=f1
 clear b1 CN h1
 go_wp2_with (first | (go_at_call 13;refine (zErr6 _ _).mono ?_;rintro e w' ⟨rfl,rfl⟩))
 refine Calls.mono CS1.out ?_
 rintro e w2 ⟨rfl,F',h2,g2,_⟩
 have B2:Hid (Below w.heap.size w w2):=g2.below B1.out B1.out.size (fun k hk=>by have:=f1.out k hk;simp at this;omega)
 have CT:Hid _:=HK.out.time h2
 have CR:Hid (∀ W,Below w2.heap.size w2 W→_):=fun W hb=>HK.out.regs (HK.out.below h2 hb)
 rw[fence_step.1] at CT
 have f32:=fence_step.2
 clear g2 h2 CS1
 generalize (z3i [] (newC undef undef) [15] []).1.f=ff at *
 generalize (z3i [] (newC undef undef) [15] []).1.u=uu at *
 go_wp2_with fail
 refine Calls.mono CT.out ?_
 rintro e w3 ⟨rfl,b3⟩
 have B3:Hid _:=z0e B2.out b3
 go_wp2_with fail
 refine Calls.mono (CR.out _ b3) ?_
 rintro e w4 ⟨rfl,b4⟩
 have B4:Hid _:=z0e B3.out b4
 clear b3 b4 CT CR
 go_wp2
 go_ret
 exact⟨rfl,B4.out⟩
def x0C (r:St):St:=({ r.1 with f:=set1 r.1.f 0 0 },r.2.1,r.2.2)
theorem timer_off {s:CS} (h:s.set=false):z5y s=false:=by
 unfold z5y dueV
 rw[h]
 rfl
theorem step_do {late:List Int} {s:CS} {l:List Int} {es:List Ev} (hs:s.stop=false) (ht:z5y s=false):z3i late s l es=x0C (doC (z2t s) l es):=by
 unfold z3i x0C
 rw[if_neg (by rw[hs];decide),if_neg (by rw[ht];decide)]
theorem step_ins {late:List Int} {s:CS} {l:List Int} {es:List Ev} {k:Nat} {i:MIns} (hs:s.stop=false) (ht:z5y s=false) (hu:∀ j,U32 (z0p l j)) (hp:s.f 32=4*(k:Int)) (hk:k<l.length) (hl:z5m s (s.f 32) 4 2=true) (hg:getV (z0p l k)=some i) (hb:(s.u&&z7b i)=false) :
  z3i late s l es=x0C (insC (z2t s) l es i (z0p l k)):=by
 rw[step_do hs ht]
 congr 1
 have hp':(z2t s).f 32=4*(k:Int):=hp
 have hl':z5m (z2t s) (4*(k:Int)) 4 2=true:=by rw[hp] at hl;exact hl
 unfold doC
 rw[hp',if_neg (by omega),if_neg (by rw[hl'];decide),if_neg (by rw[ask_word hk];decide),load_word hu k,hg]
 show (if ((z2t s).u&&z7b i)=true then _ else _)=_
 rw[if_neg (by rw[show (z2t s).u=s.u from rfl,hb];decide)]
theorem step_none {late:List Int} {s:CS} {l:List Int} {es:List Ev} {k:Nat} (hs:s.stop=false) (ht:z5y s=false) (hu:∀ j,U32 (z0p l j)) (hp:s.f 32=4*(k:Int)) (hk:k<l.length) (hl:z5m s (s.f 32) 4 2=true) (hg:getV (z0p l k)=none) :
  z3i late s l es=x0C (z1j (z2t s) 2 (z0p l k),l,es):=by
 rw[step_do hs ht]
 congr 1
 have hp':(z2t s).f 32=4*(k:Int):=hp
 have hl':z5m (z2t s) (4*(k:Int)) 4 2=true:=by rw[hp] at hl;exact hl
 unfold doC
 rw[hp',if_neg (by omega),if_neg (by rw[hl'];decide),if_neg (by rw[ask_word hk];decide),load_word hu k,hg]
theorem step_odd {late:List Int} {s:CS} {l:List Int} {es:List Ev} (hs:s.stop=false) (ht:z5y s=false) (hp:¬s.f 32%4=0):z3i late s l es=x0C (z1j (z2t s) 0 (s.f 32),l,es):=by
 rw[step_do hs ht]
 congr 1
 unfold doC
 rw[if_pos (show (z2t s).f 32%4≠0 from hp)]
 rfl
theorem step_shut {late:List Int} {s:CS} {l:List Int} {es:List Ev} (hs:s.stop=false) (ht:z5y s=false) (hp:s.f 32%4=0) (hl:z5m s (s.f 32) 4 2=false):z3i late s l es=x0C (z1j (z2t s) 1 (s.f 32),l,es):=by
 rw[step_do hs ht]
 congr 1
 unfold doC
 rw[if_neg (not_not_intro (show (z2t s).f 32%4=0 from hp)),if_pos (show z5m (z2t s) ((z2t s).f 32) 4 2=false from hl)]
 rfl
theorem get_putN {i:MIns} (h:mayV i=true):getV (putN i)=some i:=by
 unfold putN
 rw[if_pos h]
 exact get_put h
theorem get_zero:getV 0=none:=by decide +kernel
theorem more_le {late:List Int} (hL:∀ i,late.getD i 0≤2097152) (s:CS):z4f s late≤2097152:=by
 unfold z4f
 split
 ·have:=hL s.came.toNat;omega
 ·decide
section
structure One (Is:z6d) (w0:World) (late:List Int) (p N i:Nat) (w:World) (F:Nat→Prop) (s:CS) (l:List Int) (es:List Ev):Prop where
 imp:Is w p F s l es late
 lo:∀ k,F k→w0.heap.size≤k
 ok:Okay ((i:Int)*8592031844) ((i:Int)*8592031844+8589934592) s
 mem:∀ j,U32 (z0p l j)
 len:l.length=N
 evn:es.length≤i
 c0:0≤s.came
 c1:s.came≤i
 bel:Below w0.heap.size w0 w
section
variable {Is:z6d} {w0 w w':World} {late:List Int} {p N i:Nat} {F:Nat→Prop} {s:CS} {l:List Int} {es:List Ev}
theorem One.below (K:CoreK Is) (h:One Is w0 late p N i w F s l es) (hb:Below w.heap.size w w'):One Is w0 late p N i w' F s l es:=
 ⟨K.below h.imp hb,h.lo,h.ok,h.mem,h.len,h.evn,h.c0,h.c1,z0e h.bel hb⟩
theorem One.other (K:CoreK Is) {O:Nat→Prop} (h:One Is w0 late p N i w F s l es) (hc:Chg O w w') (ho:∀ k,O k→¬F k) (hl:∀ k,O k→w0.heap.size≤k):One Is w0 late p N i w' F s l es:=
 ⟨K.keep h.imp hc ho,h.lo,h.ok,h.mem,h.len,h.evn,h.c0,h.c1,hc.below h.bel h.bel.size hl⟩
theorem One.going (h:One Is w0 late p N i w F s l es) (hN:0<N) (hN':N≤1000) (hi:i≤100000) (hL:∀ i,late.getD i 0≤2097152):Going late s l es:=by
 have hm:=more_le hL s
 have ho:=h.ok
 refine⟨⟨ho.f,ho.t0,?_,ho.c0,?_,ho.tk,ho.kd,?_⟩,h.mem,by rw[h.len];exact hN,by rw[h.len];exact hN',h.c0,?_,by omega⟩
 ·have:=ho.t1;omega
 ·have:=ho.c1;omega
 ·have:=h.evn;omega
 ·have:=h.c1;omega
theorem One.step (K:CoreK Is) (h:One Is w0 late p N i w F s l es) (hN:0<N) (hN':N≤1000) (hi:i≤100000) (hL:∀ i,late.getD i 0≤2097152) :
  Calls Tryz.prog 16 #[.pointer (some ⟨p,0,none⟩)] w fun e w'=>e=.returned (.bool (!s.stop))∧∃ F',One Is w0 late p N (i+1) w' F' (z3i late s l es).1 (z3i late s l es).2.1 (z3i late s l es).2.2∧Chg F w w'∧∀ k,F' k→F k∨w.heap.size≤k:=by
 refine (K.step h.imp (h.going hN hN' hi hL)).mono ?_
 rintro e w1 ⟨rfl,F',h1,c1,f1⟩
 have st:=stepped (es:=es) h.ok h.mem late (more_le hL s)
 refine⟨rfl,F',⟨h1,fun k hk=>?_,?_,st.mem,st.len.trans h.len,?_,?_,?_,c1.below h.bel h.bel.size h.lo⟩,c1,f1⟩
 ·rcases f1 k hk with q | q
  ·exact h.lo k q
  ·exact Nat.le_trans h.bel.size q
 ·refine st.ok.mono ?_ ?_ <;> (push_cast;omega)
 ·rcases st.evs with q | ⟨e,q⟩ <;> rw[q]
  ·have:=h.evn;omega
  ·have:=h.evn;simp;omega
 ·have:=st.came.1;have:=h.c0;omega
 ·have:=st.came.2;have:=h.c1;push_cast;omega
theorem One.put (K:CoreK Is) (h:One Is w0 late p N i w F s l es) (f:Nat→Int) (u:Bool) (hf:∀ i,U32 (f i)) :
  Calls Tryz.prog 15 #[.pointer (some ⟨p,0,none⟩),.agg (z0c f u)] w fun e w'=>e=.returned (.tuple #[])∧∃ F',One Is w0 late p N i w' F' { s with f:=set1 f 0 0,u:=u } l es∧Chg F w w'∧∀ k,F' k→F k∨w.heap.size≤k:=by
 refine (K.put h.imp f u hf).mono ?_
 rintro e w1 ⟨rfl,F',h1,c1,f1⟩
 refine⟨rfl,F',⟨h1,fun k hk=>?_,ok_f h.ok (z4m hf 0 ⟨by decide,by decide⟩) u,h.mem,h.len,h.evn,h.c0,h.c1,c1.below h.bel h.bel.size h.lo⟩,c1,f1⟩
 rcases f1 k hk with q | q
 ·exact h.lo k q
 ·exact Nat.le_trans h.bel.size q
theorem new_okay:Okay 0 8589934592 (newC undef undef):=
 ⟨fun _=>(⟨by decide,by decide⟩:U32 0),Int.le_refl 0,Int.le_refl 0,Int.le_refl 0,(by decide:(0:Int)≤8589934592),(⟨by decide,by decide⟩:U32 0),(⟨by decide,by decide⟩:U32 0)⟩
theorem One.new (K:CoreK Is) (b off cp:Nat) (l:List Int) (v:Value) (late:List Int) (hB:Below w0.heap.size w0 w) (h0:0<l.length) (h1:l.length≤1000) (hu:∀ i,U32 (z0p l i)) (hb:b<w.heap.size) (hc:∀ i,i<l.length→w.cell? ⟨b,off+i,none⟩=some (.int .u32 (z0p l i))) (hl:z9l w v late) (hl':late.length≤1000) :
  Calls Tryz.prog 11 #[.slice (some ⟨b,off,none⟩) l.length cp,v] w fun e w'=>∃ p F,e=.returned (.tuple #[.pointer (some ⟨p,0,none⟩),.int .i64 0])∧One Is w0 late p l.length 0 w' F (newC undef undef) l []∧Below w.heap.size w w'∧∀ k,F k→w.heap.size≤k:=by
 refine (K.new b off cp l v late w h0 h1 hu hb hc hl hl').mono ?_
 rintro e w1 ⟨p,F,rfl,q1,q2,q3⟩
 exact⟨p,F,rfl,⟨q1,fun k hk=>Nat.le_trans hB.size (q3 k hk),new_okay.mono (by decide) (by decide),hu,rfl,Nat.le_refl 0,Int.le_refl 0,Int.le_refl 0,z0e hB q2⟩,q2,q3⟩
theorem no_lates (i:Nat):([]:List Int).getD i 0≤2097152:=by simp
def begC (f:Nat→Int) (u:Bool):CS:={ newC undef undef with f:=set1 f 0 0,u:=u }
end
theorem lets_not {s:CS} (h:s.u=false) (p n k:Int):z5m s p n k=true:=by unfold z5m;rw[h];rfl
theorem set1_at (f:Nat→Int) (i:Nat) (x:Int):set1 f i x i=x:=by unfold set1;rw[if_pos rfl]
theorem set1_ne (f:Nat→Int) (i j:Nat) (x:Int) (h:j≠i):set1 f i x j=f j:=by unfold set1;rw[if_neg h]
end
end Go.Proofs.YtilcoimelnpkeaaGreatDoor
