/-
  Contracts of functions that the statement reaches, and what they are made of, callees first.
-/
import Derived.Test.YtbmnmbkgdalkcaaGreatDoorPzb
import Derived.Test.YtbmnmbkgdalkcaaGreatDoorPzh
set_option maxRecDepth 100000
set_option maxHeartbeats 8000000
namespace Go.Proofs.YtbmnmbkgdalkcaaGreatDoor
open Go.RowKit
def noEv:Ev:=⟨0,0,0⟩
def evAt (es:List Ev) (i:Nat):Ev:=es.getD i noEv
structure Evs (w:World) (v:Value) (es:List Ev):Prop where
 is:∃ sa cap b off,v=.slice sa es.length cap∧(0<es.length→sa=some ⟨b,off,none⟩∧b<w.heap.size∧∀ i,i<es.length→w.cell? ⟨b,off+i*3,none⟩=some (.int .i64 (evAt es i).task)∧w.cell? ⟨b,off+i*3+1,none⟩=some (.int .i64 (evAt es i).kind)∧w.cell? ⟨b,off+i*3+2,none⟩=some (.int .u32 (evAt es i).n))
theorem Evs.below {w w':World} {v:Value} {es:List Ev} (h:Evs w v es) (hb:Below w.heap.size w w'):Evs w' v es:=by
 obtain⟨sa,cap,b,off,h1,h2⟩:=h.is
 refine⟨sa,cap,b,off,h1,fun hl=>?_⟩
 obtain⟨q1,q2,q3⟩:=h2 hl
 refine⟨q1,Nat.lt_of_lt_of_le q2 hb.size,fun i hi=>?_⟩
 obtain⟨r1,r2,r3⟩:=q3 i hi
 exact⟨by rw[hb.cell (p:=⟨b,off+i*3,none⟩) q2];exact r1,by rw[hb.cell (p:=⟨b,off+i*3+1,none⟩) q2];exact r2,by rw[hb.cell (p:=⟨b,off+i*3+2,none⟩) q2];exact r3⟩
theorem evrow_at (es:List Ev):∀ (i k:Nat),i<es.length→k<3→(z5d es)[i*3+k]?=(z5p (evAt es i))[k]?:=by
 induction es with
 | nil=>intro i k h;cases h
 | cons e es ih=>
  intro i k hi hk
  have he:z5d (e::es)=z5p e++z5d es:=rfl
  have hl:(z5p e).length=3:=rfl
  rw[he]
  cases i with
  | zero=>
   rw[Nat.zero_mul,Nat.zero_add,List.getElem?_append_left (by rw[hl];exact hk)]
   rfl
  | succ i=>
   rw[List.getElem?_append_right (by rw[hl];omega),hl,show (i+1)*3+k-3=i*3+k by omega]
   exact ih i k (by simpa using hi) hk
theorem evs_of {w:World} {B:Nat} {v:Value} {es:List Ev} (h:w.ownsRow B 63 3 v es.length (z5d es)):Evs w v es:=by
 obtain⟨_,⟨e1,e2⟩ | ⟨g,cap,cur,e1,e2,e3,e4,e5,e6,e7⟩⟩:=h
 ·exact⟨none,0,0,0,by rw[e1,e2],fun hl=>by omega⟩
 ·refine⟨some ⟨g,0,none⟩,cap,g,0,e1,fun hl=>⟨rfl,(z0a e3).2.2,fun i hi=>?_⟩⟩
  have hk:∀ k v,k<3→(z5p (evAt es i))[k]?=some v→w.cell? ⟨g,i*3+k,none⟩=some v:=fun k v hk hv=>by
   refine (z0a e3).1 _ _ ?_
   rw[← evrow_at es i k hi hk,← e7,List.getElem?_take,if_pos (by omega)] at hv
   rw[← Array.getElem?_toList]
   exact hv
  rw[Nat.zero_add]
  exact⟨hk 0 _ (by decide) rfl,hk 1 _ (by decide) rfl,hk 2 _ (by decide) rfl⟩
theorem rSameEv {w:World} {v1 v2:Value} {es:List Ev} (h1:Evs w v1 es) (h2:Evs w v2 es) (hm:es.length≤1000000) :
  Calls Tryz.prog 32 #[v1,v2] w fun e w'=>e=.returned (.bool true)∧Below w.heap.size w w':=by
 have HA:Hid _:=h1
 have HB:Hid _:=h2
 obtain⟨sa,ca,a,oa,rfl,ha⟩:=h1.is
 obtain⟨sb,cb,b,ob,rfl,hb⟩:=h2.is
 have HA:Hid _:=ha
 have HB:Hid _:=hb
 clear h1 h2 ha hb
 go_enter Tryz.func32,Tryz.ntmps32
 go_wp2_with fail
 go_loopw [5] (fun i wr=>∃ k:Nat,k≤es.length∧i=.int .i64 k∧Hid (Below w.heap.size w wr)) (fun i _=>es.length-(intOf i).toNat)
 case atStart=>exact⟨0,Nat.zero_le _,rfl,Below.refl _ _⟩
 case round=>
  obtain⟨k,hk,rfl,hbr⟩:=hrel
  by_cases hlt:k<es.length
  ·obtain⟨ea,la,ka⟩:=HA.out (by omega)
   obtain⟨eb,lb,kb⟩:=HB.out (by omega)
   subst ea eb
   obtain⟨q0,q1,q2⟩:=ka k hlt
   obtain⟨r0,r1,r2⟩:=kb k hlt
   rw[← hbr.out.cell (p:=⟨a,oa+k*3,none⟩) la] at q0
   rw[← hbr.out.cell (p:=⟨a,oa+k*3+1,none⟩) la] at q1
   rw[← hbr.out.cell (p:=⟨a,oa+k*3+2,none⟩) la] at q2
   rw[← hbr.out.cell (p:=⟨b,ob+k*3,none⟩) lb] at r0
   rw[← hbr.out.cell (p:=⟨b,ob+k*3+1,none⟩) lb] at r1
   rw[← hbr.out.cell (p:=⟨b,ob+k*3+2,none⟩) lb] at r2
   clear HA HB la lb ka kb
   generalize evAt es k=ev at *
   generalize es.length=n at *
   obtain⟨ta,ki,nn⟩:=ev
   simp only at q0 q1 q2 r0 r1 r2
   go_wp2_with fail
   go_region
   go_wp2_with fail
   exact⟨⟨k+1,hlt,by go_num,hbr.out.drew⟩,by simp[intOf];omega⟩
  ·have hkn:k=es.length:=by omega
   subst hkn
   go_wp2
   go_ret
   exact⟨rfl,hbr.out⟩
structure z9l (w:World) (v:Value) (late:List Int):Prop where
 is:∃ sa cap bl off,v=.slice sa late.length cap∧(0<late.length→sa=some ⟨bl,off,none⟩∧bl<w.heap.size∧∀ i,i<late.length→w.cell? ⟨bl,off+i,none⟩=some (.int .i64 (late.getD i 0)))
structure Going (late:List Int) (s:CS) (l:List Int) (es:List Ev):Prop where
 fine:Fine s es
 mem:∀ i,U32 (z0p l i)
 pos:0<l.length
 len:l.length≤1000
 c0:0≤s.came
 c1:s.came≤1000000
 more:z4f s late≤1099511627776
abbrev z6d:=World→Nat→(Nat→Prop)→CS→List Int→List Ev→List Int→Prop
structure CoreK (Is:z6d):Prop where
 keep:∀ {w w':World} {p:Nat} {F O:Nat→Prop} {s:CS} {l:List Int} {es:List Ev} {late:List Int},Is w p F s l es late→Chg O w w'→(∀ k,O k→¬F k)→Is w' p F s l es late
 lt:∀ {w:World} {p:Nat} {F:Nat→Prop} {s:CS} {l:List Int} {es:List Ev} {late:List Int},Is w p F s l es late→∀ k,F k→k<w.heap.size
 any:∀ {w:World} {p:Nat} {F:Nat→Prop} {s:CS} {l:List Int} {es:List Ev} {late:List Int} (m la ev:Value),Is w p F s l es late→Is w p F { s with m:=m,la:=la,ev:=ev } l es late
 new:∀ (b off cp:Nat) (l:List Int) (v:Value) (late:List Int) (w:World),0<l.length→l.length≤1000→(∀ i,U32 (z0p l i))→b<w.heap.size→(∀ i,i<l.length→w.cell? ⟨b,off+i,none⟩=some (.int .u32 (z0p l i)))→z9l w v late→late.length≤1000→
  Calls Tryz.prog 8 #[.slice (some ⟨b,off,none⟩) l.length cp,v] w fun e w'=>∃ p F,e=.returned (.tuple #[.pointer (some ⟨p,0,none⟩),.int .i64 0])∧Is w' p F (newC undef undef) l [] late∧Below w.heap.size w w'∧∀ k,F k→w.heap.size≤k
 nothing:∀ (sa:Option Addr) (cp:Nat) (v:Value) (late:List Int) (w:World),z9l w v late→
  Calls Tryz.prog 8 #[.slice sa 0 cp,v] w fun e w'=>e=.returned (.tuple #[.pointer none,.int .i64 1])∧Below w.heap.size w w'
 step:∀ {w:World} {p:Nat} {F:Nat→Prop} {s:CS} {l:List Int} {es:List Ev} {late:List Int},Is w p F s l es late→Going late s l es→
  Calls Tryz.prog 10 #[.pointer (some ⟨p,0,none⟩)] w fun e w'=>e=.returned (.bool (!s.stop))∧∃ F',Is w' p F' (z3i late s l es).1 (z3i late s l es).2.1 (z3i late s l es).2.2 late∧Chg F w w'∧∀ k,F' k→F k∨w.heap.size≤k
 put:∀ {w:World} {p:Nat} {F:Nat→Prop} {s:CS} {l:List Int} {es:List Ev} {late:List Int},Is w p F s l es late→∀ (f:Nat→Int) (u:Bool),(∀ i,U32 (f i))→
  Calls Tryz.prog 14 #[.pointer (some ⟨p,0,none⟩),.agg (z0c f u)] w fun e w'=>e=.returned (.tuple #[])∧∃ F',Is w' p F' { s with f:=set1 f 0 0,u:=u } l es late∧Chg F w w'∧∀ k,F' k→F k∨w.heap.size≤k
 regs:∀ {w:World} {p:Nat} {F:Nat→Prop} {s:CS} {l:List Int} {es:List Ev} {late:List Int},Is w p F s l es late→
  Calls Tryz.prog 12 #[.pointer (some ⟨p,0,none⟩)] w fun e w'=>e=.returned (.agg (z0c s.f s.u))∧Below w.heap.size w w'
 time:∀ {w:World} {p:Nat} {F:Nat→Prop} {s:CS} {l:List Int} {es:List Ev} {late:List Int},Is w p F s l es late→
  Calls Tryz.prog 11 #[.pointer (some ⟨p,0,none⟩)] w fun e w'=>e=.returned (.int .i64 s.t)∧Below w.heap.size w w'
 word:∀ {w:World} {p:Nat} {F:Nat→Prop} {s:CS} {l:List Int} {es:List Ev} {late:List Int},Is w p F s l es late→∀ x,U32 x→
  Calls Tryz.prog 34 #[.pointer (some ⟨p,0,none⟩),.int .u32 x] w fun e w'=>e=.returned (.tuple #[.int .u32 (z2r l.length l x 4 false),.int .i64 (askV l.length x 4)])∧Below w.heap.size w w'
 leak:∀ {w:World} {p:Nat} {F:Nat→Prop} {s:CS} {l:List Int} {es:List Ev} {late:List Int},Is w p F s l es late→
  Calls Tryz.prog 31 #[.pointer (some ⟨p,0,none⟩)] w fun e w'=>e=.returned (.agg #[.int .u32 s.lp,.int .u32 s.lat,.int .i64 s.lt])∧Below w.heap.size w w'
 events:∀ {w:World} {p:Nat} {F:Nat→Prop} {s:CS} {l:List Int} {es:List Ev} {late:List Int},Is w p F s l es late→es.length≤1000000→
  Calls Tryz.prog 33 #[.pointer (some ⟨p,0,none⟩)] w fun e w'=>∃ v,e=.returned v∧Evs w' v es∧Below w.heap.size w w'
theorem CoreK.below {Is:z6d} (K:CoreK Is) {w w':World} {p:Nat} {F:Nat→Prop} {s:CS} {l:List Int} {es:List Ev} {late:List Int} (h:Is w p F s l es late) (hb:Below w.heap.size w w'):Is w' p F s l es late:=
 K.keep (O:=fun _=>False) h (Chg.of hb) (fun _ e=>e.elim)
theorem z1q.below {w w':World} {c bm cap B:Nat} {s:CS} {l:List Int} {es:List Ev} (h:z1q w c bm cap B s l es) (hb:Below w.heap.size w w'):z1q w' c bm cap B s l es:=h.on (h.core.below hb) (Chg.of hb)
theorem zErr6 (n:Int) (w:World):Calls Tryz.prog 9 #[.int .i64 n] w fun e w'=>e=.returned (.int .i64 n)∧w'=w:=by
 go_enter Tryz.func9,Tryz.ntmps9
 go_wp2
 go_ret
 exact⟨rfl,rfl⟩
theorem ksame {Is:z6d} (K:CoreK Is) {w:World} {p:Nat} {F:Nat→Prop} {c bm cap B:Nat} {s:CS} {l:List Int} {es:List Ev} {late:List Int} (h:Is w p F s l es late) (hm:z1q w c bm cap B s l es) (hn:es.length≤1000000) :
  Calls Tryz.prog 16 #[.pointer (some ⟨p,0,none⟩),.pointer (some ⟨c,0,none⟩)] w fun e w'=>e=.returned (.bool true)∧Below w.heap.size w w':=by
 have HM:Hid _:=hm
 have HN:Hid _:=hn
 have C1:Hid _:=fun W (hb:Below w.heap.size w W)=>K.regs (K.below h hb)
 have C2:Hid _:=fun W (hb:Below w.heap.size w W)=>K.time (K.below h hb)
 have C3:Hid _:=fun W (hb:Below w.heap.size w W)=>K.leak (K.below h hb)
 have C4:Hid _:=fun W (hb:Below w.heap.size w W)=>K.events (K.below h hb) HN.out
 have Q1:=eq57 s.f s.u
 obtain⟨fs,hfs⟩:=z3f
 have HS:Hid _:=hfs
 have hmo:Tryz.prog.follows .mixedOrders=true:=by kernel_rfl
 clear hfs h hm hn
 go_enter Tryz.func16,Tryz.ntmps16
 go_wp2_with fail
 refine wp_region_sched (fun w'=>Below w.heap.size w w') [0,2,3,4,5,1,6,7,8,10,11,12,13,9,14,15,16,17,19,20,21,22,18,23,24,25,26,28,29,30,31,27,32,33,34] _ hmo (by kernel_rfl) rfl ((Below.refl _ _).drew) ?_
 have IS:Hid _:=(Below.refl w.heap.size w).drew
 generalize w.drew=W at *
 refine z1i ?_ (some 5) rfl rfl (by rfl) ?_ ?_
 rotate_left
 ·intro w' hSw
  go_simp
  try with_reducible rfl
 simp only[Act.put,List.setIfInBounds_toArray,List.set_cons_zero,List.set_cons_succ]
 refine z1i ?_ (some 7) rfl rfl (by rfl) ?_ ?_
 rotate_left
 ·intro w' hSw
  go_simp
  try with_reducible rfl
 simp only[Act.put,List.setIfInBounds_toArray,List.set_cons_zero,List.set_cons_succ]
 refine z1i ?_ (some 8) rfl rfl (by rfl) ?_ ?_
 rotate_left
 ·intro w' hSw
  go_simp
  try with_reducible rfl
 simp only[Act.put,List.setIfInBounds_toArray,List.set_cons_zero,List.set_cons_succ]
 refine z1i ?_ (some 9) rfl rfl (by rfl) ?_ ?_
 rotate_left
 ·intro w' hSw
  go_simp
  try with_reducible rfl
 simp only[Act.put,List.setIfInBounds_toArray,List.set_cons_zero,List.set_cons_succ]
 refine sched_mids (some 10) rfl (by rfl) 32 (.tmp 9) rfl _ _ rfl (z0c s.f s.u) _ (fun w' h=>(HM.out.core.below h).regs) HS.out rfl (by rw[z0b];exact z0o) ?_
 simp only[Act.put,List.setIfInBounds_toArray,List.set_cons_zero,List.set_cons_succ]
 refine z7g 12 #[.pointer (some ⟨p,0,none⟩)] (some 6) rfl rfl (by rfl) (by kernel_rfl) ?_
 refine (C1.out _ IS.out).mono ?_
 rintro e wn ⟨rfl,bn⟩
 have IN:Hid _:=z0e IS.out bn
 clear IS bn
 have IS:Hid _:=IN
 clear IN
 refine⟨_,rfl,IS.out,?_⟩
 simp only[Act.put,List.setIfInBounds_toArray,List.set_cons_zero,List.set_cons_succ]
 refine z1i ?_ (some 11) rfl rfl (by rfl) ?_ ?_
 rotate_left
 ·intro w' hSw
  go_simp
  try with_reducible rfl
 simp only[Act.put,List.setIfInBounds_toArray,List.set_cons_zero,List.set_cons_succ]
 refine z1i ?_ (some 12) rfl rfl (by rfl) ?_ ?_
 rotate_left
 ·intro w' hSw
  go_simp
  try with_reducible rfl
 simp only[Act.put,List.setIfInBounds_toArray,List.set_cons_zero,List.set_cons_succ]
 refine z1i ?_ (some 13) rfl rfl (by rfl) ?_ ?_
 rotate_left
 ·intro w' hSw
  go_simp
  try with_reducible rfl
 simp only[Act.put,List.setIfInBounds_toArray,List.set_cons_zero,List.set_cons_succ]
 refine z1i ?_ (some 15) rfl rfl (by rfl) ?_ ?_
 rotate_left
 ·intro w' hSw
  go_simp
  try with_reducible rfl
 simp only[Act.put,List.setIfInBounds_toArray,List.set_cons_zero,List.set_cons_succ]
 refine z1i ?_ (some 16) rfl rfl (by rfl) ?_ ?_
 rotate_left
 ·intro w' hSw
  go_simp
  try with_reducible rfl
 simp only[Act.put,List.setIfInBounds_toArray,List.set_cons_zero,List.set_cons_succ]
 refine z1i ?_ (some 17) rfl rfl (by rfl) ?_ ?_
 rotate_left
 ·intro w' hSw
  go_simp
  try with_reducible rfl
 simp only[Act.put,List.setIfInBounds_toArray,List.set_cons_zero,List.set_cons_succ]
 refine z1i ?_ (some 18) rfl rfl (by rfl) ?_ ?_
 rotate_left
 ·intro w' hSw
  have c:w'.cell? ⟨c,58,none⟩=some (.int .i64 s.t):=(HM.out.core.below hSw).cell 58 (by decide)
  go_simp
  try with_reducible rfl
 simp only[Act.put,List.setIfInBounds_toArray,List.set_cons_zero,List.set_cons_succ]
 refine z7g 11 #[.pointer (some ⟨p,0,none⟩)] (some 14) rfl rfl (by rfl) (by kernel_rfl) ?_
 refine (C2.out _ IS.out).mono ?_
 rintro e wn ⟨rfl,bn⟩
 have IN:Hid _:=z0e IS.out bn
 clear IS bn
 have IS:Hid _:=IN
 clear IN
 refine⟨_,rfl,IS.out,?_⟩
 simp only[Act.put,List.setIfInBounds_toArray,List.set_cons_zero,List.set_cons_succ]
 refine z1i ?_ (some 19) rfl rfl (by rfl) ?_ ?_
 rotate_left
 ·intro w' hSw
  go_simp
  try with_reducible rfl
 simp only[Act.put,List.setIfInBounds_toArray,List.set_cons_zero,List.set_cons_succ]
 refine z1i ?_ (some 20) rfl rfl (by rfl) ?_ ?_
 rotate_left
 ·intro w' hSw
  go_simp
  try with_reducible rfl
 simp only[Act.put,List.setIfInBounds_toArray,List.set_cons_zero,List.set_cons_succ]
 refine z1i ?_ (some 21) rfl rfl (by rfl) ?_ ?_
 rotate_left
 ·intro w' hSw
  go_simp
  try with_reducible rfl
 simp only[Act.put,List.setIfInBounds_toArray,List.set_cons_zero,List.set_cons_succ]
 refine z1i ?_ (some 22) rfl rfl (by rfl) ?_ ?_
 rotate_left
 ·intro w' hSw
  go_simp
  try with_reducible rfl
 simp only[Act.put,List.setIfInBounds_toArray,List.set_cons_zero,List.set_cons_succ]
 refine z1i ?_ (some 24) rfl rfl (by rfl) ?_ ?_
 rotate_left
 ·intro w' hSw
  go_simp
  try with_reducible rfl
 simp only[Act.put,List.setIfInBounds_toArray,List.set_cons_zero,List.set_cons_succ]
 refine z1i ?_ (some 25) rfl rfl (by rfl) ?_ ?_
 rotate_left
 ·intro w' hSw
  go_simp
  try with_reducible rfl
 simp only[Act.put,List.setIfInBounds_toArray,List.set_cons_zero,List.set_cons_succ]
 refine z1i ?_ (some 26) rfl rfl (by rfl) ?_ ?_
 rotate_left
 ·intro w' hSw
  go_simp
  try with_reducible rfl
 simp only[Act.put,List.setIfInBounds_toArray,List.set_cons_zero,List.set_cons_succ]
 refine z1i ?_ (some 27) rfl rfl (by rfl) ?_ ?_
 rotate_left
 ·intro w' hSw
  have c0:w'.cell? ⟨c,63,none⟩=some (.int .u32 s.lp):=(HM.out.core.below hSw).cell 63 (by decide)
  have c1:w'.cell? ⟨c,64,none⟩=some (.int .u32 s.lat):=(HM.out.core.below hSw).cell 64 (by decide)
  have c2:w'.cell? ⟨c,65,none⟩=some (.int .i64 s.lt):=(HM.out.core.below hSw).cell 65 (by decide)
  go_simp
  try with_reducible rfl
 simp only[Act.put,List.setIfInBounds_toArray,List.set_cons_zero,List.set_cons_succ]
 refine z7g 31 #[.pointer (some ⟨p,0,none⟩)] (some 23) rfl rfl (by rfl) (by kernel_rfl) ?_
 refine (C3.out _ IS.out).mono ?_
 rintro e wn ⟨rfl,bn⟩
 have IN:Hid _:=z0e IS.out bn
 clear IS bn
 have IS:Hid _:=IN
 clear IN
 refine⟨_,rfl,IS.out,?_⟩
 simp only[Act.put,List.setIfInBounds_toArray,List.set_cons_zero,List.set_cons_succ]
 refine z1i ?_ (some 28) rfl rfl (by rfl) ?_ ?_
 rotate_left
 ·intro w' hSw
  go_simp
  try with_reducible rfl
 simp only[Act.put,List.setIfInBounds_toArray,List.set_cons_zero,List.set_cons_succ]
 refine z1i ?_ (some 29) rfl rfl (by rfl) ?_ ?_
 rotate_left
 ·intro w' hSw
  go_simp
  try with_reducible rfl
 simp only[Act.put,List.setIfInBounds_toArray,List.set_cons_zero,List.set_cons_succ]
 refine z1i ?_ (some 30) rfl rfl (by rfl) ?_ ?_
 rotate_left
 ·intro w' hSw
  go_simp
  try with_reducible rfl
 simp only[Act.put,List.setIfInBounds_toArray,List.set_cons_zero,List.set_cons_succ]
 refine z1i ?_ (some 31) rfl rfl (by rfl) ?_ ?_
 rotate_left
 ·intro w' hSw
  go_simp
  try with_reducible rfl
 simp only[Act.put,List.setIfInBounds_toArray,List.set_cons_zero,List.set_cons_succ]
 refine z1i ?_ (some 33) rfl rfl (by rfl) ?_ ?_
 rotate_left
 ·intro w' hSw
  go_simp
  try with_reducible rfl
 simp only[Act.put,List.setIfInBounds_toArray,List.set_cons_zero,List.set_cons_succ]
 refine z1i ?_ (some 34) rfl rfl (by rfl) ?_ ?_
 rotate_left
 ·intro w' hSw
  go_simp
  try with_reducible rfl
 simp only[Act.put,List.setIfInBounds_toArray,List.set_cons_zero,List.set_cons_succ]
 refine z1i ?_ (some 35) rfl rfl (by rfl) ?_ ?_
 rotate_left
 ·intro w' hSw
  go_simp
  try with_reducible rfl
 simp only[Act.put,List.setIfInBounds_toArray,List.set_cons_zero,List.set_cons_succ]
 refine z1i ?_ (some 36) rfl rfl (by rfl) ?_ ?_
 rotate_left
 ·intro w' hSw
  have c:w'.cell? ⟨c,66,none⟩=some s.ev:=(HM.out.core.below hSw).cell 66 (by decide)
  go_simp
  try with_reducible rfl
 simp only[Act.put,List.setIfInBounds_toArray,List.set_cons_zero,List.set_cons_succ]
 refine z7g 33 #[.pointer (some ⟨p,0,none⟩)] (some 32) rfl rfl (by rfl) (by kernel_rfl) ?_
 refine (C4.out _ IS.out).mono ?_
 rintro e wn ⟨ve,rfl,EV,bn⟩
 have EV:Hid _:=EV
 have IN:Hid _:=z0e IS.out bn
 clear IS bn
 have IS:Hid _:=IN
 clear IN
 refine⟨_,rfl,IS.out,?_⟩
 simp only[Act.put,List.setIfInBounds_toArray,List.set_cons_zero,List.set_cons_succ]
 refine z7g 32 #[ve,s.ev] (some 37) rfl rfl (by rfl) (by kernel_rfl) ?_
 refine (rSameEv EV.out (evs_of (HM.out.below IS.out).ev) HN.out).mono ?_
 rintro e wn ⟨rfl,bn⟩
 have IN:Hid _:=z0e IS.out bn
 clear IS bn
 have IS:Hid _:=IN
 clear IN
 refine⟨_,rfl,IS.out,?_⟩
 simp only[Act.put,List.setIfInBounds_toArray,List.set_cons_zero,List.set_cons_succ]
 refine z1i ?_ (some 38) rfl rfl (by rfl) ?_ ?_
 rotate_left
 ·intro w' hSw
  go_simp
  try with_reducible rfl
 simp only[Act.put,List.setIfInBounds_toArray,List.set_cons_zero,List.set_cons_succ]
 refine z1i ?_ (some 4) rfl rfl (by rfl) ?_ ?_
 rotate_left
 ·intro w' hSw
  go_simp
  try with_reducible rfl
 simp only[Act.put,List.setIfInBounds_toArray,List.set_cons_zero,List.set_cons_succ]
 refine sched_done (NoPanic.normal ?_)
 go_wp2
 go_ret
 exact⟨rfl,IS.out⟩
theorem bits_all {x:Int} (h:U32 x):z0j x 0 32=x:=by
 have:=z0t h 0 32 (by decide) (by decide) (by decide)
 rw[show ((0:Nat):Int)=0 from rfl,show ((32:Nat):Int)=32 from rfl] at this
 rw[this]
 obtain⟨h0,h1⟩:=h
 omega
theorem load_word {l:List Int} (hu:∀ i,U32 (z0p l i)) (k:Nat):z1l l (4*(k:Int)) 4 false=z0p l k:=by
 unfold z1l
 rw[if_neg (by decide),show (4*(k:Int)/4).toNat=k by omega,show 4*(k:Int)%4*8=0 by omega,show (8*4:Int)=32 from rfl]
 exact bits_all (hu k)
theorem ask_word {n k:Nat} (h:k<n):askV n (4*(k:Int)) 4=0:=by
 unfold askV
 rw[if_neg (by decide),if_neg (by omega),if_neg (by omega)]
theorem ask_end (n:Nat):askV n (4*(n:Int)) 4=2:=by
 unfold askV
 rw[if_neg (by decide),if_neg (by omega),if_pos (by omega)]
theorem ask_odd (n:Nat):askV n 1 4=4:=by
 unfold askV
 rw[if_neg (by decide),if_pos (by decide)]
theorem kwords {Is:z6d} (K:CoreK Is) {w:World} {p:Nat} {F:Nat→Prop} {c bm cap B:Nat} {s:CS} {l:List Int} {es:List Ev} {late:List Int} (h:Is w p F s l es late) (hm:z1q w c bm cap B s l es) (hn:l.length≤1000) :
  Calls Tryz.prog 17 #[.pointer (some ⟨p,0,none⟩),.pointer (some ⟨c,0,none⟩)] w fun e w'=>e=.returned (.bool true)∧Below w.heap.size w w':=by
 have HM:Hid _:=hm
 have HC:Hid _:=fun W (hb:Below w.heap.size w W) x hx=>K.word (K.below h hb) x hx
 have C0:Hid (∀ W,Below w.heap.size w W→W.cell? ⟨c,0,none⟩=some (.slice (some ⟨bm,0,none⟩) l.length cap)):=fun W hb=>by rw[(HM.out.below hb).core.cell 0 (by decide),← HM.out.mem.m];rfl
 have CM:Hid (∀ W,Below w.heap.size w W→∀ k,k<l.length→W.cell? ⟨bm,k,none⟩=some (.int .u32 (z0p l k))):=fun W hb k hk=>(HM.out.below hb).mem.mem k hk
 have HU:Hid _:=hm.mem.u
 clear h hm
 go_enter Tryz.func17,Tryz.ntmps17
 go_wp2_with fail
 go_loopw [5] (fun i wr=>∃ k:Nat,k≤l.length∧i=.int .i64 k∧Hid (Below w.heap.size w wr)) (fun i _=>l.length-(intOf i).toNat)
 case atStart=>exact⟨0,Nat.zero_le _,rfl,Below.refl _ _⟩
 case round=>
  obtain⟨k,hk,rfl,hbr⟩:=hrel
  have c0:=C0.out _ hbr.out
  by_cases hlt:k<l.length
  ·have hU4:U32 (4*(k:Int)):=⟨by omega,by omega⟩
   have CW:Hid _:=HC.out _ hbr.out (4*(k:Int)) hU4
   rw[show z2r l.length l (4*(k:Int)) 4 false=z0p l k by unfold z2r;rw[if_pos (ask_word hlt)];exact load_word HU.out k,ask_word hlt] at CW
   have g0:=fun W hb=>CM.out W hb k hlt
   have g0:Hid _:=g0
   have v1:4*(k:Int)%4294967296=4*(k:Int):=by omega
   have v2:wrap64 (4*(k:Int))=4*(k:Int):=z0y (by omega) (by omega)
   have i0:(0:Int)≤(k:Int):=by omega
   have i1:(k:Int)<(l.length:Int):=by omega
   have d1:decide ((k:Int)<(l.length:Int))=true:=decide_eq_true i1
   generalize z0p l k=x at *
   clear HC CM HU
   generalize l.length=n at *
   go_wp2_with fail
   refine Calls.mono CW.out ?_
   rintro e w1 ⟨rfl,b1⟩
   have B1:Hid _:=z0e hbr.out b1
   have c0:=C0.out _ B1.out
   have g1:=g0.out _ B1.out
   clear b1 hbr CW
   go_wp2_with (first | (go_at_call 9;refine (zErr6 _ _).mono ?_;rintro e w' ⟨rfl,rfl⟩))
   exact⟨⟨k+1,by omega,by go_num,B1.out⟩,by simp[intOf];omega⟩
  ·have hkn:k=l.length:=by omega
   subst hkn
   have hU4:U32 (4*(l.length:Int)):=⟨by omega,by omega⟩
   have CW:Hid _:=HC.out _ hbr.out (4*(l.length:Int)) hU4
   rw[ask_end] at CW
   have v1:4*(l.length:Int)%4294967296=4*(l.length:Int):=by omega
   have v2:wrap64 (4*(l.length:Int))=4*(l.length:Int):=z0y (by omega) (by omega)
   generalize z2r l.length l (4*(l.length:Int)) 4 false=x at *
   go_wp2_with fail
   refine Calls.mono CW.out ?_
   rintro e w1 ⟨rfl,b1⟩
   have B1:Hid _:=z0e hbr.out b1
   have CX:Hid _:=HC.out _ B1.out 1 ⟨by decide,by decide⟩
   rw[ask_odd] at CX
   generalize z2r l.length l 1 4 false=y at *
   clear b1 hbr CW
   go_wp2_with fail
   refine Calls.mono CX.out ?_
   rintro e w2 ⟨rfl,b2⟩
   have B2:Hid _:=z0e B1.out b2
   clear b2 CX
   go_wp2_with (first | (go_at_call 9;refine (zErr6 _ _).mono ?_;rintro e w' ⟨rfl,rfl⟩))
   go_ret
   exact⟨rfl,B2.out⟩
theorem new_going (l:List Int) (hu:∀ i,U32 (z0p l i)) (h0:0<l.length) (h1:l.length≤1000) (m la:Value) (late:List Int) (hm:z4f (newC m la) late≤1099511627776):Going late (newC m la) l []:=
 ⟨⟨fun _=>⟨Int.le_refl _,by show (0:Int)<4294967296;decide⟩,Int.le_refl _,by show (0:Int)≤576460752303423488;decide,Int.le_refl _,by show (0:Int)≤576460752303423488+8589934592;decide,⟨Int.le_refl _,by show (0:Int)<4294967296;decide⟩,⟨Int.le_refl _,by show (0:Int)<4294967296;decide⟩,Nat.zero_le _⟩,hu,h0,h1,Int.le_refl _,by show (0:Int)≤1000000;decide,hm⟩
theorem fence_step:(z3i [] (newC undef undef) [15] []).1.t=1∧(z3i [] (newC undef undef) [15] []).1.f 32=4:=by decide +kernel
theorem fldPC (f:Nat→Int) (u:Bool) (w:World):(Instr.field 32 (.agg (z0c f u)) 1).run Tryz.prog w=.ok (.int .u32 (f 32)) w:=by kernel_rfl
theorem kawake6 {Is:z6d} (K:CoreK Is) (w:World) :
  Calls Tryz.prog 4 #[] w fun e w'=>e=.returned (.bool true)∧Below w.heap.size w w':=by
 have HK:Hid _:=K
 have hbs:∀ w,(Instr.buildSlice 23 1 #[(0,.int .u32 15)]).run Tryz.prog w=.ok (.slice (some ⟨w.heap.size,0,none⟩) 1 1) (w.alloc (.cells #[.int .u32 15] 28)):=fun w=>by kernel_rfl
 have hu:∀ i,U32 (z0p [15] i):=fun i=>by
  unfold z0p
  cases i with
  | zero=>exact⟨by decide,by decide⟩
  | succ i=>exact⟨by simp,by simp⟩
 have CN:Hid _:=K.new w.heap.size 0 1 [15] (.slice none 0 0) [] (w.alloc (.cells #[.int .u32 15] 28)) (by decide) (by decide) hu (by simp) (fun i hi=>by
  have:i=0:=by simpa using hi
  subst this
  exact (z0a (z0g w _)).1 0 _ rfl) ⟨none,0,0,0,rfl,fun h=>absurd h (by decide)⟩ (by decide)
 have HU:Hid _:=hu
 have FP:=fldPC
 clear K hu
 go_enter Tryz.func4,Tryz.ntmps4
 go_wp2_with fail
 refine Calls.mono CN.out ?_
 rintro e w1 ⟨p,F,rfl,h1,b1,f1⟩
 have B1:Hid _:=z1u b1
 have CS1:Hid _:=HK.out.step h1 (new_going [15] HU.out (by decide) (by decide) undef undef [] (by decide))
 have f1:Hid _:=f1
 clear b1 CN h1
 go_wp2_with (first | (go_at_call 9;refine (zErr6 _ _).mono ?_;rintro e w' ⟨rfl,rfl⟩))
 refine Calls.mono CS1.out ?_
 rintro e w2 ⟨rfl,F',h2,g2,_⟩
 have B2:Hid (Below w.heap.size w w2):=g2.below B1.out B1.out.size (fun k hk=>by have:=f1.out k hk;simp at this;omega)
 have CT:Hid _:=HK.out.time h2
 have CR:Hid (∀ W,Below w2.heap.size w2 W→_):=fun W hb=>HK.out.regs (HK.out.below h2 hb)
 rw[fence_step.1] at CT
 have f32:=fence_step.2
 clear g2 h2 CS1
 generalize (z3i [] (newC undef undef) [15] []).1.f=ff at *
 generalize (z3i [] (newC undef undef) [15] []).1.u=uu at *
 go_wp2_with fail
 refine Calls.mono CT.out ?_
 rintro e w3 ⟨rfl,b3⟩
 have B3:Hid _:=z0e B2.out b3
 go_wp2_with fail
 refine Calls.mono (CR.out _ b3) ?_
 rintro e w4 ⟨rfl,b4⟩
 have B4:Hid _:=z0e B3.out b4
 clear b3 b4 CT CR
 go_wp2
 go_ret
 exact⟨rfl,B4.out⟩
def x0C (r:St):St:=({ r.1 with f:=set1 r.1.f 0 0 },r.2.1,r.2.2)
theorem step_do {late:List Int} {s:CS} {l:List Int} {es:List Ev} (hs:s.stop=false) (ht:z5y s=false):z3i late s l es=x0C (doC (z2t s) l es):=by
 unfold z3i x0C
 rw[if_neg (by rw[hs];decide),if_neg (by rw[ht];decide)]
theorem z1q.away {w w':World} {c bm cap B:Nat} {s:CS} {l:List Int} {es:List Ev} {O:Nat→Prop} (h:z1q w c bm cap B s l es) (hc:Chg O w w') (h1:¬O c) (h2:¬O bm) (h3:∀ k,s.ev.ownBlock=some k→¬O k):z1q w' c bm cap B s l es:=by
 have hb:=hc.block bm h.mem.lt h2
 exact⟨⟨hc.kept h.core.is h1⟩,⟨h.mem.m,fun i hi=>by rw[World.cell?_of_block hb];exact h.mem.mem i hi,fun i=>by have:=h.mem.free i;simp only[World.frozen?,hb] at this ⊢;exact this,Nat.lt_of_lt_of_le h.mem.lt hc.size,h.mem.ne,h.mem.u,h.mem.len⟩,z2z h.ev hc h3,h.cB,h.bB,Nat.le_trans h.hB hc.size⟩
structure Both (Is:z6d) (w0:World) (late:List Int) (p c bm cap B:Nat) (N i:Nat) (w:World) (F:Nat→Prop) (s:CS) (l:List Int) (es:List Ev):Prop where
 imp:Is w p F s l es late
 mach:z1q w c bm cap B s l es
 late:z9l w0 s.la late
 apart:∀ k,F k→k≠c∧k≠bm∧s.ev.ownBlock≠some k∧w0.heap.size≤k
 ok:Okay ((i:Int)*8592031844) ((i:Int)*8592031844+8589934592) s
 mem:∀ j,U32 (z0p l j)
 len:l.length=N
 evn:es.length≤i
 c0:0≤s.came
 c1:s.came≤i
 below:Below w0.heap.size w0 w
 hc:w0.heap.size≤c
 hb:w0.heap.size≤bm
theorem Both.lateAt {Is:z6d} {w0:World} {late:List Int} {p c bm cap B N i:Nat} {w:World} {F:Nat→Prop} {s:CS} {l:List Int} {es:List Ev} (h:Both Is w0 late p c bm cap B N i w F s l es):LateAt w c bm B s.la late:=by
 obtain⟨sa,cp,bl,off,q1,q2⟩:=h.late.is
 refine⟨sa,cp,bl,off,q1,fun hl=>?_⟩
 obtain⟨r1,r2,r3⟩:=q2 hl
 have:=h.hc
 have:=h.hb
 have:=h.mach.cB
 have:=h.below.size
 exact⟨r1,by omega,by omega,by omega,by omega,fun i hi=>by rw[h.below.cell (p:=⟨bl,off+i,none⟩) r2];exact r3 i hi⟩
theorem more_le {late:List Int} (hL:∀ i,late.getD i 0≤2097152) (s:CS):z4f s late≤2097152:=by
 unfold z4f
 split
 ·have:=hL s.came.toNat;omega
 ·decide
theorem Both.going {Is:z6d} {w0:World} {late:List Int} {p c bm cap B N i:Nat} {w:World} {F:Nat→Prop} {s:CS} {l:List Int} {es:List Ev} (h:Both Is w0 late p c bm cap B N i w F s l es) (hN:0<N) (hN':N≤1000) (hi:i≤100000) (hL:∀ i,late.getD i 0≤2097152):Going late s l es:=by
 have hm:=more_le hL s
 have ho:=h.ok
 refine⟨⟨ho.f,ho.t0,?_,ho.c0,?_,ho.tk,ho.kd,?_⟩,h.mem,by rw[h.len];exact hN,by rw[h.len];exact hN',h.c0,?_,by omega⟩
 ·have:=ho.t1;omega
 ·have:=ho.c1;omega
 ·have:=h.evn;omega
 ·have:=h.c1;omega
theorem Both.next {Is:z6d} (K:CoreK Is) {w0:World} {late:List Int} {p c bm cap B N i:Nat} {w w1 w2:World} {F F':Nat→Prop} {s:CS} {l:List Int} {es:List Ev} (h:Both Is w0 late p c bm cap B N i w F s l es) (hL:∀ i,late.getD i 0≤2097152)
  (k1:Is w1 p F' (z3i late s l es).1 (z3i late s l es).2.1 (z3i late s l es).2.2 late) (g1:Chg F w w1) (f1:∀ k,F' k→F k∨w.heap.size≤k) (k2:Went w1 w2 c bm cap B s (z3i late s l es)) :
  ∃ ev,Both Is w0 late p c bm cap B N (i+1) w2 F' { (z3i late s l es).1 with ev:=ev } (z3i late s l es).2.1 (z3i late s l es).2.2:=by
 obtain⟨⟨ev,m2,e2⟩,g2⟩:=k2
 have st:=stepped (es:=es) h.ok h.mem late (more_le hL s)
 have hcl:c<w.heap.size:=h.mach.core.lt
 have hbl:bm<w.heap.size:=h.mach.mem.lt
 have hev:∀ k,s.ev.ownBlock=some k→B≤k∧k<w.heap.size:=fun k hk=>z3k h.mach.ev k hk
 have hF':∀ k,F' k→k<w1.heap.size:=K.lt k1
 have hap:∀ k,F' k→k≠c∧k≠bm∧s.ev.ownBlock≠some k∧w0.heap.size≤k:=fun k hk=>by
  rcases f1 k hk with q | q
  ·exact h.apart k q
  ·refine⟨by omega,by omega,fun e=>by have:=(hev k e).2;omega,by have:=h.below.size;omega⟩
 have hg1:=g1.size
 have k2':Is w2 p F' (z3i late s l es).1 (z3i late s l es).2.1 (z3i late s l es).2.2 late:=K.keep k1 g2 (fun k hk hf=>by
  obtain⟨q1,q2,q3,_⟩:=hap k hf
  rcases hk with q | q | q
  ·exact q1 q
  ·exact q2 q
  ·exact q3 q)
 have b1:Below w0.heap.size w0 w1:=g1.below h.below h.below.size (fun k hk=>(h.apart k hk).2.2.2)
 have b2:Below w0.heap.size w0 w2:=g2.below b1 b1.size (fun k hk=>by
  rcases hk with q | q | q
  ·rw[q];exact h.hc
  ·rw[q];exact h.hb
  ·have:=(hev k q).1;have:=h.mach.cB;have:=h.hc;omega)
 refine⟨ev,K.any _ _ ev k2',m2,?_,fun k hk=>?_,?_,st.mem,st.len.trans h.len,?_,?_,?_,b2,h.hc,h.hb⟩
 ·rw[show ({ (z3i late s l es).1 with ev:=ev }:CS).la=s.la from st.la]
  exact h.late
 ·obtain⟨q1,q2,q3,q4⟩:=hap k hk
  refine⟨q1,q2,fun e=>?_,q4⟩
  rcases e2 k e with r | r
  ·exact q3 r
  ·have:=hF' k hk;omega
 ·have o:=st.ok
  have e:((i+1:Nat):Int)*8592031844=(i:Int)*8592031844+8589934692+2097152:=by omega
  rw[e]
  exact⟨o.f,o.t0,o.t1,o.c0,o.c1,o.tk,o.kd⟩
 ·rcases st.evs with q | ⟨e,q⟩
  ·rw[q];have:=h.evn;omega
  ·rw[q,List.length_append];have:=h.evn;simp;omega
 ·show 0≤(z3i late s l es).1.came
  have:=st.came.1;have:=h.c0;omega
 ·show (z3i late s l es).1.came≤((i+1:Nat):Int)
  have:=st.came.2;have:=h.c1;omega
theorem ksteps {Is : z6d} (K : CoreK Is) (b off cp : Nat) (l : List Int) (v : Value) (late : List Int) (f : Nat → Int) (u : Bool) (n : Nat) (w : World) (hl0 : 0 < l.length) (hl1 : l.length ≤ 1000) (hu : ∀ i, U32 (z0p l i)) (hb : b < w.heap.size) (hc : ∀ i, i < l.length → w.cell? ⟨b, off + i, none⟩ = some (.int .u32 (z0p l i)))
    (hla:z9l w v late) (hlen:late.length≤1000) (hL:∀ i,late.getD i 0≤2097152) (hf:∀ i,U32 (f i)) (hn:n≤1000) :
    Calls Tryz.prog 5 #[.slice (some ⟨b,off,none⟩) l.length cp,v,.agg (z0c f u),.int .i64 n] w fun e w'=>e=.returned (.bool true)∧Below w.heap.size w w':=by
  have HK:Hid _:=K
  have HU:Hid _:=hu
  have HF:Hid _:=hf
  have HL:Hid _:=hL
  have HLA:Hid _:=hla
  have hbox:=z3r f u
  obtain⟨fs,hfs⟩:=z3f
  have HS:Hid _:=hfs
  have b0:Below w.heap.size w (w.alloc (.cells (z0c f u) 32)):=(Below.refl _ _).alloc (Nat.le_refl _) _
  have hla0:z9l (w.alloc (.cells (z0c f u) 32)) v late:=by
    obtain⟨sa,cp,bl,off,q1,q2⟩:=hla.is
    refine⟨sa,cp,bl,off,q1,fun hl=>?_⟩
    obtain⟨r1,r2,r3⟩:=q2 hl
    exact⟨r1,by simp;omega,fun i hi=>by rw[b0.cell (p:=⟨bl,off+i,none⟩) r2];exact r3 i hi⟩
  have CN:Hid _:=K.new b off cp l v late (w.alloc (.cells (z0c f u) 32)) hl0 hl1 hu (by simp;omega) (fun i hi=>by rw[b0.cell (p:=⟨b,off+i,none⟩) hb];exact hc i hi) hla0 hlen
  have HC:Hid (∀ W,Below w.heap.size w W→∀ i,i<l.length→W.cell? ⟨b,off+i,none⟩=some (.int .u32 (z0p l i))):=fun W hB i hi=>by rw[hB.cell (p:=⟨b,off+i,none⟩) hb];exact hc i hi
  have R0:=z0g w (.cells (z0c f u) 32)
  obtain⟨sa,lcap,bl,loff,rfl,_⟩:=hla.is
  clear K hu hf hL hla hfs hla0 hc b0
  go_enter Tryz.func5,Tryz.ntmps5
  go_wp2_with fail
  refine Calls.mono CN.out ?_
  rintro e w1 ⟨p,F1,rfl,k1,b1,f1⟩
  have B1:Hid (Below w.heap.size w w1):=z1u b1
  have R1:=z0f R0 b1
  have K1:Hid _:=k1
  have N1:Hid (∀ k,F1 k→w.heap.size+1≤k):=fun k hk=>by have:=f1 k hk;simpa using this
  have hb1:b<w1.heap.size:=by have:=B1.out.size;omega
  clear CN R0 b1 k1 f1
  have CM:Hid _:=mnew b off l.length cp l rfl hl0 (by omega) HU.out sa late.length lcap w1 hb1 (HC.out _ B1.out)
  go_wp2_with (first | (go_at_call 9;refine (zErr6 _ _).mono ?_;rintro e wq ⟨rfl,hwq⟩;rw[hwq];clear hwq wq))
  refine Calls.mono CM.out ?_
  rintro e w2 ⟨c,bm,cap,rfl,m2,b2,hbm,hcc⟩
  have R2:=z0f R1 b2
  have B2:Hid _:=z0e B1.out b2
  have hK2:Is w2 p F1 (newC undef undef) l [] late:=HK.out.below K1.out b2
  have lt1:Hid (∀ k,F1 k→k<w1.heap.size):=HK.out.lt K1.out
  have CP:Hid _:=HK.out.put hK2 f u HF.out
  have M2:Hid _:=m2
  have hsz2:w1.heap.size≤w2.heap.size:=b2.size
  clear R1 K1 hK2 m2 b2 CM
  go_wp2_with (first | (refine z7d (by rfl) 32 (.tmp 6) rfl _ rfl _ _ _ R2 HS.out rfl (by rw[z0b];exact z0o) ?_))
  refine Calls.mono CP.out ?_
  rintro e w3 ⟨rfl,F2,k3,g3,f3⟩
  have hcl:c<w2.heap.size:=M2.out.core.lt
  have hbl:bm<w2.heap.size:=M2.out.mem.lt
  have FA:Hid (∀ k,F2 k→k≠c∧k≠bm∧w.heap.size+1≤k):=fun k hk=>by
    have hw:=B2.out.size
    rcases f3 k hk with q | q
    · have q1:=lt1.out k q
      have q2:=N1.out k q
      exact⟨by omega,by omega,q2⟩
    · have:=B1.out.size
      have h1:=(Array.getElem?_eq_some_iff.1 R2).1
      exact⟨by omega,by omega,by omega⟩
  have m3:z1q w3 c bm cap (c+1) (newC (.slice (some ⟨bm,0,none⟩) l.length cap) (.slice sa late.length lcap)) l []:=M2.out.away g3 (fun e=>by have:=lt1.out _ e;omega) (fun e=>by have:=lt1.out _ e;omega) (fun k hk=>by cases hk)
  have R3:w3.heap[w.heap.size]?=some (.cells (z0c f u) 32):=g3.kept R2 (fun e=>by have:=N1.out _ e;omega)
  have B3:Hid (Below w.heap.size w w3):=g3.below B2.out B2.out.size (fun k hk=>by have:=N1.out k hk;omega)
  have K3:Hid _:=k3
  have M3:Hid _:=m3
  have TH:Hid _:=m3.core.there
  have H4:Hid (z0i (w3.setCells c 1 (z0c f u).toList) c { newC (.slice (some ⟨bm,0,none⟩) l.length cap) (.slice sa late.length lcap) with f:=f,u:=u }):=m3.core.regsIn f u
  have G4 : Hid (Chg (· = c) w3 (w3.setCells c 1 (z0c f u).toList)) := (Chg.refl _ _).owns _
  have hcw:w.heap.size≤c:=by have:=B1.out.size;omega
  have hbw:w.heap.size≤bm:=by have:=B1.out.size;omega
  clear R2 B2 M2 CP g3 f3 k3 m3 lt1 N1 hsz2 B1
  go_wp2_with (first | (refine z7d (by rfl) 32 (.tmp 6) rfl _ rfl _ _ _ R3 HS.out rfl (by rw[z0b];exact z0o) ?_) | (refine z1v rfl 32 (.tmp 37) (.tmp 35) rfl c 1 (z0c f u) rfl rfl (by rw[z0b];exact TH.out) (by rw[z0b];exact z0o) (z0s _ _) ?_;intro W4 e4;rw[← e4] at H4 G4;clear e4;have x0:=H4.out.x 0 (by decide);have y0:=H4.out.free 1))
  have H5:Hid (z0i (W4.setCell ⟨c,1,none⟩ (.int .u32 0)) c { newC (.slice (some ⟨bm,0,none⟩) l.length cap) (.slice sa late.length lcap) with f:=set1 f 0 0,u:=u }):=H4.out.putx 0 (by decide) 0
  have G5 : Hid (Chg (· = c) w3 (W4.setCell ⟨c, 1, none⟩ (.int .u32 0))) := G4.out.own _
  generalize W4.setCell ⟨c,1,none⟩ (.int .u32 0)=W5 at *
  have R0:Hid (Both Is w late p c bm cap (c+1) l.length 0 W5 F2 { newC (.slice (some ⟨bm,0,none⟩) l.length cap) (.slice sa late.length lcap) with f:=set1 f 0 0,u:=u } l []):=by
    refine⟨?_,M3.out.turn H5.out G5.out rfl rfl,HLA.out,fun k hk=>?_,⟨z4m HF.out 0 ⟨by decide,by decide⟩,Int.le_refl _,?_,Int.le_refl _,?_,⟨Int.le_refl _,by show (0:Int)<4294967296;decide⟩,⟨Int.le_refl _,by show (0:Int)<4294967296;decide⟩⟩,HU.out,rfl,Nat.le_refl _,Int.le_refl _,Int.le_refl _,?_,hcw,hbw⟩
    · exact HK.out.any (.slice (some ⟨bm,0,none⟩) l.length cap) (.slice sa late.length lcap) (.slice none 0 0) (HK.out.keep K3.out G5.out (fun k hk hF=>(FA.out k hF).1 hk))
    · obtain⟨q1,q2,q3⟩:=FA.out k hk
      exact⟨q1,q2,(fun e=>by cases e),by omega⟩
    · show (0:Int)≤_;decide
    · show (0:Int)≤_;decide
    · exact G5.out.below B3.out B3.out.size (fun k hk=>by rw[hk];exact hcw)
  clear H4 G4 H5 G5 x0 y0 M3 K3 B3 R3 FA TH
  go_loopw [12] (fun i wr=>∃ (k:Nat) (F:Nat→Prop) (s:CS) (m:List Int) (es:List Ev),k≤n∧i=.int .i64 k∧Hid (Both Is w late p c bm cap (c+1) l.length k wr F s m es)) (fun i _=>n-(intOf i).toNat)
  case atStart=>exact⟨0,F2,_,_,_,Nat.zero_le _,rfl,R0.out⟩
  case round=>
    clear R0
    obtain⟨k,F,s,m,es,hk,rfl,hr⟩:=hrel
    by_cases hlt:k<n
    · have hg:=hr.out.going hl0 hl1 (by omega) HL.out
      have CS1:Hid _:=HK.out.step hr.out.imp hg
      have i1:(k:Int)<(n:Int):=by omega
      have d1:decide ((k:Int)<(n:Int))=true:=decide_eq_true i1
      have HG:Hid _:=hg
      clear hg
      go_wp2_with fail
      refine Calls.mono CS1.out ?_
      rintro e v1 ⟨rfl,F',k1,g1,f1⟩
      have mm:z1q v1 c bm cap (c+1) s m es:=hr.out.mach.away g1 (fun e=>(hr.out.apart _ e).1 rfl) (fun e=>(hr.out.apart _ e).2.1 rfl) (fun j hj e=>(hr.out.apart _ e).2.2.1 hj)
      have ll:LateAt v1 c bm (c+1) s.la late:=by
        obtain⟨sa',cp',bl',off',q1,q2⟩:=hr.out.lateAt.is
        refine⟨sa',cp',bl',off',q1,fun hl=>?_⟩
        obtain⟨r1,r2,r3,r4,r5,r6⟩:=q2 hl
        obtain⟨sb,cb,bb,ob,t1,t2⟩:=hr.out.late.is
        obtain⟨t3,t4,_⟩:=t2 hl
        have hbb:bl'=bb:=by
          rw[q1,r1,t3] at t1
          simp only[Value.slice.injEq,Option.some.injEq,Addr.mk.injEq] at t1
          exact t1.1.1
        have hb:=g1.block bl' r5 (fun e=>by have:=(hr.out.apart _ e).2.2.2;omega)
        exact⟨r1,r2,r3,r4,Nat.lt_of_lt_of_le r5 g1.size,fun i hi=>by rw[World.cell?_of_block hb];exact r6 i hi⟩
      have CM1:Hid _:=mstep mm HG.out.fine late ll HG.out.c0 (by have:=HG.out.c1;omega) HG.out.more
      have N1:Hid _:=fun w2 (h2:Went v1 w2 c bm cap (c+1) s (z3i late s m es))=>Both.next HK.out hr.out HL.out k1 g1 f1 h2
      clear CS1 mm ll k1 g1 f1
      go_wp2_with fail
      refine Calls.mono CM1.out ?_
      rintro e v2 ⟨rfl,h2⟩
      obtain⟨ev,h3⟩:=N1.out _ h2
      have H3:Hid _:=h3
      have CX:Hid _:=ksame HK.out H3.out.imp H3.out.mach (by have:=H3.out.evn;omega)
      have HW:Hid (∀ W,Below v2.heap.size v2 W→Calls Tryz.prog 17 #[.pointer (some ⟨p,0,none⟩),.pointer (some ⟨c,0,none⟩)] W fun e w'=>e=.returned (.bool true)∧Below W.heap.size W w'):=fun W hb=>kwords HK.out (HK.out.below H3.out.imp hb) (H3.out.mach.below hb) (by rw[H3.out.len];exact hl1)
      clear CM1 N1 h2 h3 hr
      generalize (!s.stop)=bb at *
      cases bb
      · go_wp2_with fail
        refine Calls.mono CX.out ?_
        rintro e v3 ⟨rfl,b3⟩
        have B3:Hid _:=z0e H3.out.below b3
        have CW:Hid _:=HW.out _ b3
        clear b3 CX HW
        go_wp2_with fail
        refine Calls.mono CW.out ?_
        rintro e v4 ⟨rfl,b4⟩
        have B4:Hid _:=z0e B3.out b4
        clear b4 CW
        go_wp2
        go_ret
        exact⟨rfl,B4.out⟩
      · go_wp2_with fail
        refine Calls.mono CX.out ?_
        rintro e v3 ⟨rfl,b3⟩
        have B3:Hid _:=b3
        clear b3 CX HW
        go_wp2_with fail
        exact⟨⟨k+1,F',_,_,_,hlt,by go_num,⟨HK.out.below H3.out.imp B3.out,H3.out.mach.below B3.out,H3.out.late,H3.out.apart,H3.out.ok,H3.out.mem,H3.out.len,H3.out.evn,H3.out.c0,H3.out.c1,z0e H3.out.below B3.out,H3.out.hc,H3.out.hb⟩⟩,by simp[intOf];omega⟩
    · have hkn:k=n:=by omega
      subst hkn
      have CW:Hid _:=kwords HK.out hr.out.imp hr.out.mach (by rw[hr.out.len];exact hl1)
      go_wp2_with fail
      refine Calls.mono CW.out ?_
      rintro e v4 ⟨rfl,b4⟩
      have B4:Hid _:=z0e hr.out.below b4
      clear b4 CW
      go_wp2
      go_ret
      exact⟨rfl,B4.out⟩
end Go.Proofs.YtbmnmbkgdalkcaaGreatDoor
