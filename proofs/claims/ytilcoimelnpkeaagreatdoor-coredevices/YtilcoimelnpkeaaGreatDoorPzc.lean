/-
  Contracts of functions that the statement reaches, and what they are made of, callees first.
-/
import Derived.Below
import Derived.Deep.AppendLies
import Derived.Deep.OwnRows
import Derived.Deep.RegionHeld3
import Derived.Deep.WholeRow
import Derived.DeepKeys4
import Derived.Laws.BitsAllLaws
import Derived.Laws.CopyOwn
import Derived.Laws.OwnMore
import Derived.Laws.Rows
import Derived.Laws.Tables
import Derived.Maps.OwnSet
import Derived.Outline
import Derived.OwnWalk
import Derived.RowKit3
import Derived.Sort.Grow
import Derived.Test.YtilcoimelnpkeaaGreatDoorChecked
import Derived.WalkKit
import Derived.WalkLawsBesides
import Derived.WalkSpells
import Derived.Test.YtilcoimelnpkeaaGreatDoorPza
set_option maxRecDepth 100000
set_option maxHeartbeats 8000000
namespace Go.Proofs.YtilcoimelnpkeaaGreatDoor
open Go.RowKit
def sizeV (k:Int):Bool:=decide (k=1)||(decide (k=2)||decide (k=4))
def askV (n:Nat) (p k:Int):Int:=if sizeV k=false then 1 else if p%k≠0 then 4 else if 4*(n:Int)≤p then 2 else 0
def z0p (l:List Int) (i:Nat):Int:=l.getD i 0
def z1l (l:List Int) (p k:Int) (s:Bool):Int:=
 if s then z2g (z0j (z0p l (p/4).toNat) (p%4*8) (8*k)) (8*k) else z0j (z0p l (p/4).toNat) (p%4*8) (8*k)
def maskV (p k:Int):Int:=z0j 4294967295 0 (8*k)*2 ^ (p%4*8).toNat%4294967296
def z3h (old p k x:Int):Int:=bits .or .u32 (bits .andNot .u32 old (maskV p k)) (bits .and .u32 (x*2 ^ (p%4*8).toNat%4294967296) (maskV p k))
theorem z7f (k:Int):sizeV k=true↔k=1∨k=2∨k=4:=by unfold sizeV;simp
theorem z8a {n:Nat} {p k:Int} (h:askV n p k=0):(k=1∨k=2∨k=4)∧p%k=0∧p<4*(n:Int):=by
 unfold askV at h
 split at h
 ·cases h
 ·rename_i h1
  split at h
  ·cases h
  ·rename_i h2
   split at h
   ·cases h
   ·rename_i h3
    exact⟨(z7f k).1 (by cases hs:sizeV k with | true=>rfl | false=>exact absurd hs h1),by omega,by omega⟩
def z2r (n:Nat) (l:List Int) (p k:Int) (s:Bool):Int:=if askV n p k=0 then z1l l p k s else 0
structure Rg where
 lo:Int
 hi:Int
 x:Bool
 w:Bool
def noRg:Rg:=⟨0,0,false,false⟩
def z8o (r:Rg):List Value:=[.int .u32 r.lo,.int .u32 r.hi,.bool r.x,.bool r.w]
def rgAt (l:List Rg) (i:Nat):Rg:=l.getD i noRg
def RgU (r:Rg):Prop:=U32 r.lo∧U32 r.hi
theorem rgAt_u {l:List Rg} (h:∀ r∈l,RgU r) (i:Nat):RgU (rgAt l i):=by
 unfold rgAt
 rw[List.getD_eq_getElem?_getD]
 cases hi:l[i]? with
 | none=>exact⟨⟨by decide,by decide⟩,⟨by decide,by decide⟩⟩
 | some z=>exact h z (List.mem_of_getElem? hi)
def z8f (r:Rg) (p s h:Int):Bool:=decide (r.lo≤p)&&decide (p+s≤r.hi)&&(decide (h≠2)||r.x)&&(decide (h≠1)||r.w)
def z2m (l:List Rg) (p s h:Int):Bool:=if s<1∨h<0∨2<h then false else l.any fun r=>z8f r p s h
def z7c (a b:Int):Rg:=⟨a/4*4,b/4*4,b%2==1,b/2%2==1⟩
def ofV (ws:Nat→Int):List Rg:=(List.range 8).map fun i=>z7c (ws (2*i)) (ws (2*i+1))
def z2n (f:Nat→Int):Array Value:=((List.range 16).map fun i=>Value.int .u32 (f i)).toArray
structure Regs (w:World) (sa:Option Addr) (b off:Nat) (l:List Rg):Prop where
 sa:0<l.length→sa=some ⟨b,off,none⟩
 there:0<l.length→b<w.heap.size
 cell:∀ i,i<l.length→∀ f v,(z8o (rgAt l i))[f]?=some v→w.cell? ⟨b,off+i*4+f,none⟩=some v
theorem Regs.below {w w':World} {sa:Option Addr} {b off:Nat} {l:List Rg} (h:Regs w sa b off l) (hb:Below w.heap.size w w'):Regs w' sa b off l:=
 ⟨h.sa,fun n=>Nat.lt_of_lt_of_le (h.there n) hb.size,fun i hi f v hv=>by rw[hb.cell (p:=⟨b,off+i*4+f,none⟩) (h.there (by omega))];exact h.cell i hi f v hv⟩
theorem Regs.drew {w:World} {sa:Option Addr} {b off:Nat} {l:List Rg} (h:Regs w sa b off l):Regs w.drew sa b off l:=⟨h.sa,h.there,h.cell⟩
theorem any_at {l:List Rg} {f:Rg→Bool} {i:Nat} (hi:i<l.length) (h:f (rgAt l i)=true):l.any f=true:=by
 rw[List.any_eq_true]
 refine⟨rgAt l i,?_,h⟩
 unfold rgAt
 rw[List.getD_eq_getElem?_getD,List.getElem?_eq_getElem hi]
 exact List.getElem_mem _
theorem any_none {l:List Rg} {f:Rg→Bool} (h:∀ i,i<l.length→f (rgAt l i)=false):l.any f=false:=by
 rw[List.any_eq_false]
 intro r hr
 obtain⟨i,hi,rfl⟩:=List.mem_iff_getElem.1 hr
 have:=h i hi
 unfold rgAt at this
 rw[List.getD_eq_getElem?_getD,List.getElem?_eq_getElem hi] at this
 simpa using this
theorem z1r (f:Nat→Int):(z2n f).size=16:=by simp[z2n]
theorem z8w (f:Nat→Int) (i:Nat) (h:i<16):(z2n f)[i]?=some (.int .u32 (f i)):=by simp[z2n,h]
theorem z4r:(Tryz.prog.info? 35).map (·.size)=some 16:=by kernel_rfl
theorem z7e:Tryz.prog.underlying 35=some (.array 16 31):=by kernel_rfl
def rrow (l:List Rg):List Value:=l.flatMap z8o
theorem z6k (r:Rg):(z8o r).length=4:=rfl
theorem rrow_at (l:List Rg):∀ (i f:Nat),i<l.length→f<4→(rrow l)[i*4+f]?=(z8o (rgAt l i))[f]?:=by
 induction l with
 | nil=>intro i f h;cases h
 | cons r l ih=>
  intro i f hi hf
  unfold rrow
  rw[List.flatMap_cons]
  cases i with
  | zero=>
   rw[Nat.zero_mul,Nat.zero_add,List.getElem?_append_left (by rw[z6k];exact hf)]
   rfl
  | succ i=>
   rw[List.getElem?_append_right (by rw[z6k];omega),z6k,show (i+1)*4+f-4=i*4+f by omega]
   exact ih i f (by simpa using hi) hf
def rval (r:Rg):Value:=.agg #[.int .u32 r.lo,.int .u32 r.hi,.bool r.x,.bool r.w]
def z6t (r:Rg) (p s:Int):Bool:=decide (0<s)&&decide (r.lo≤p)&&decide (p+s≤r.hi)
def z4q (r:Rg) (h:Int):Bool:=if h=0 then true else if h=1 then r.w else if h=2 then r.x else false
theorem allow_split (r:Rg) (p s h:Int):(z6t r p s&&z4q r h)=(if s<1∨h<0∨2<h then false else z8f r p s h):=by
 by_cases c:s<1∨h<0∨2<h
 ·rw[if_pos c]
  unfold z6t z4q
  by_cases h0:0<s
  ·rw[if_neg (by omega),if_neg (by omega),if_neg (by omega),Bool.and_false]
  ·simp[h0]
 ·rw[if_neg c]
  unfold z6t z4q z8f
  have h0:0<s:=by omega
  have e:h=0∨h=1∨h=2:=by omega
  rcases e with rfl | rfl | rfl <;> simp[h0]
theorem allowV_any (l:List Rg) (p s h:Int):z2m l p s h=l.any fun r=>z6t r p s&&z4q r h:=by
 unfold z2m
 by_cases c:s<1∨h<0∨2<h
 ·rw[if_pos c]
  symm
  rw[List.any_eq_false]
  intro r _
  rw[allow_split,if_pos c]
  decide
 ·rw[if_neg c]
  congr 1
  funext r
  rw[allow_split,if_neg c]
theorem gcovers (r:Rg) (hr:RgU r) (p s:Int) (hp:U32 p) (hs:U32 s) (w:World) :
  Calls Tryz.prog 105 #[rval r,.int .u32 p,.int .u32 s] w fun e w'=>e=.returned (.bool (z6t r p s))∧Below w.heap.size w w':=by
 obtain⟨lo,hi,x,y⟩:=r
 obtain⟨⟨l0,l1⟩,⟨g0,g1⟩⟩:=hr
 obtain⟨p0,p1⟩:=hp
 obtain⟨s0,s1⟩:=hs
 simp only at l0 l1 g0 g1
 unfold rval z6t
 simp only
 have HB:Hid (∀ o:Obj,Below w.heap.size w (w.alloc o)):=fun o=>(Below.refl _ _).alloc (Nat.le_refl _) _
 by_cases d0:0<s
 ·by_cases d1:lo≤p
  ·by_cases d2:p+s≤hi
   ·rw[decide_eq_true d0,decide_eq_true d1,decide_eq_true d2]
    go_enter Tryz.func105,Tryz.ntmps105
    go_wp2
    go_ret
    exact⟨rfl,HB.out _⟩
   ·rw[decide_eq_true d0,decide_eq_true d1,decide_eq_false d2]
    go_enter Tryz.func105,Tryz.ntmps105
    go_wp2
    go_ret
    exact⟨rfl,HB.out _⟩
  ·rw[decide_eq_true d0,decide_eq_false d1]
   go_enter Tryz.func105,Tryz.ntmps105
   go_wp2
   go_ret
   exact⟨rfl,HB.out _⟩
 ·rw[decide_eq_false d0]
  go_enter Tryz.func105,Tryz.ntmps105
  go_wp2
  go_ret
  exact⟨rfl,HB.out _⟩
theorem gpermits (r:Rg) (h:Int) (w:World) :
  Calls Tryz.prog 106 #[rval r,.int .i64 h] w fun e w'=>e=.returned (.bool (z4q r h))∧Below w.heap.size w w':=by
 obtain⟨lo,hi,x,y⟩:=r
 unfold rval z4q
 simp only
 have HB:Hid (∀ o:Obj,Below w.heap.size w (w.alloc o)):=fun o=>(Below.refl _ _).alloc (Nat.le_refl _) _
 by_cases e0:h=0
 ·subst e0
  go_enter Tryz.func106,Tryz.ntmps106
  go_wp2
  go_ret
  exact⟨rfl,HB.out _⟩
 ·have b0:(h==0)=false:=by simpa using e0
  rw[if_neg e0]
  by_cases e1:h=1
  ·subst e1
   go_enter Tryz.func106,Tryz.ntmps106
   go_wp2
   go_ret
   exact⟨rfl,HB.out _⟩
  ·have b1:(h==1)=false:=by simpa using e1
   rw[if_neg e1]
   by_cases e2:h=2
   ·subst e2
    go_enter Tryz.func106,Tryz.ntmps106
    go_wp2
    go_ret
    exact⟨rfl,HB.out _⟩
   ·have b2:(h==2)=false:=by simpa using e2
    rw[if_neg e2]
    go_enter Tryz.func106,Tryz.ntmps106
    go_wp2
    go_ret
    exact⟨rfl,HB.out _⟩
theorem andNot3 {x:Int} (h:U32 x):bits .andNot .u32 x 3=x/4*4:=by
 obtain⟨X,rfl⟩:=Int.eq_ofNat_of_zero_le h.1
 have h1:X<4294967296:=by have:=h.2;omega
 have:=u32_andNot_nat X 3 h1 (by decide)
 rw[show ((3:Nat):Int)=3 by rfl,show (4294967295-3:Nat)=4294967292 by rfl,nat_hi32_2] at this
 rw[this]
 omega
theorem and1 {x:Int} (h:U32 x):bits .and .u32 x 1=x%2:=by
 obtain⟨X,rfl⟩:=Int.eq_ofNat_of_zero_le h.1
 have h1:X<4294967296:=by have:=h.2;omega
 have:=u32_and_nat X 1 h1 (by decide)
 rw[show ((1:Nat):Int)=1 by rfl,nat_mask1] at this
 rw[this]
 omega
theorem and2 {x:Int} (h:U32 x):bits .and .u32 x 2=x/2%2*2:=by
 obtain⟨X,rfl⟩:=Int.eq_ofNat_of_zero_le h.1
 have h1:X<4294967296:=by have:=h.2;omega
 have:=u32_and_nat X 2 h1 (by decide)
 have e:=nat_bit 1 X
 rw[show (2 ^ 1:Nat)=2 by rfl] at e
 rw[show ((2:Nat):Int)=2 by rfl,e] at this
 rw[this]
 omega
theorem pair_bits {a b:Int} (ha:U32 a) (hb:U32 b):z7c a b=⟨bits .andNot .u32 a 3,bits .andNot .u32 b 3,bits .and .u32 b 1 != 0,bits .and .u32 b 2 != 0⟩:=by
 rw[andNot3 ha,andNot3 hb,and1 hb,and2 hb]
 unfold z7c
 have e1:(b%2==1)=(b%2 != 0):=by
  rcases Int.emod_two_eq b with h | h <;> rw[h] <;> rfl
 have e2:(b/2%2==1)=(b/2%2*2 != 0):=by
  rcases Int.emod_two_eq (b/2) with h | h <;> rw[h] <;> rfl
 rw[e1,e2]
theorem gregionOf (a b:Int) (ha:U32 a) (hb:U32 b) (w:World) :
  Calls Tryz.prog 117 #[.agg #[.int .u32 a,.int .u32 b]] w fun e w'=>e=.returned (rval (z7c a b))∧Below w.heap.size w w':=by
 have e:=pair_bits ha hb
 unfold rval
 rw[e]
 simp only
 clear e ha hb
 generalize hx:bits .andNot .u32 a 3=x at *
 generalize hy:bits .andNot .u32 b 3=y at *
 generalize hu:bits .and .u32 b 1=u at *
 generalize hv:bits .and .u32 b 2=v at *
 go_enter Tryz.func117,Tryz.ntmps117
 go_wp2
 exact bodyPost_ret (v:=.agg #[.int .u32 x,.int .u32 y,.bool (u != 0),.bool (v != 0)]) (by simp[results,Tryz.results117,go_sem]) rfl ⟨rfl,box2⟩
def pval (a b:Int):Value:=.agg #[.int .u32 a,.int .u32 b]
theorem gpairAt (ws:Nat→Int) (k:Nat) (hk:k<8) (w:World) :
  Calls Tryz.prog 108 #[.agg (z2n ws),.int .i64 k] w fun e w'=>e=.returned (pval (ws (2*k)) (ws (2*k+1)))∧Below w.heap.size w w':=by
 have hbox:∀ w,(Instr.box 35 (.agg (z2n ws))).run Tryz.prog w=.ok (.pointer (some ⟨w.heap.size,0,none⟩)) (w.alloc (.cells (z2n ws) 35)):=fun w=>by kernel_rfl
 obtain⟨m,hm⟩:∃ m,m=2*k:=⟨_,rfl⟩
 have q0:=z8w ws (2*k) (by omega)
 have q1:=z8w ws (2*k+1) (by omega)
 rw[← hm] at q0 q1 ⊢
 generalize ws m=x at *
 generalize ws (m+1)=y at *
 go_enter Tryz.func108,Tryz.ntmps108
 go_wp2_with fail
 have hA:((w.alloc (.cells (z2n ws) 35)).alloc (.cells #[.int .u32 0,.int .u32 0] 176)).heap[w.heap.size]?=some (.cells (z2n ws) 35):=z0m ((Below.refl _ _).alloc (Nat.le_refl _) _)
 have hB:((w.alloc (.cells (z2n ws) 35)).alloc (.cells #[.int .u32 0,.int .u32 0] 176)).heap[w.heap.size+1]?=some (.cells #[.int .u32 0,.int .u32 0] 176):=by
  have:=z0g (w.alloc (.cells (z2n ws) 35)) (.cells #[.int .u32 0,.int .u32 0] 176)
  rwa [World.size_alloc] at this
 have HB:Hid (Below w.heap.size w ((w.alloc (.cells (z2n ws) 35)).alloc (.cells #[.int .u32 0,.int .u32 0] 176))):=box2
 generalize ((w.alloc (.cells (z2n ws) 35)).alloc (.cells #[.int .u32 0,.int .u32 0] 176))=V at *
 obtain⟨cc,cf,cs⟩:=z0a hA
 have c0:=cc m _ q0
 have c1:=cc (m+1) _ q1
 obtain⟨dc,df,ds⟩:=z0a hB
 have d0:=dc 0 (.int .u32 0) rfl
 have d1:=dc 1 (.int .u32 0) rfl
 have f0:=df 0
 have f1:=df 1
 clear cc cf dc df hbox hA hB q0 q1
 have v0:(2:Int)*(k:Int)=(m:Int):=by omega
 have v1:IntKind.i64.wrap (2*(k:Int))=(m:Int):=by rw[IntKind.wrap_i64];omega
 have v2:IntKind.i64.wrap ((m:Int)+1)=(m:Int)+1:=by rw[IntKind.wrap_i64];omega
 have v3:((m:Int)+1).toNat=m+1:=by omega
 have i1:(0:Int)≤(m:Int):=by omega
 have i2:(m:Int)<16:=by omega
 have i3:(m:Int)+1<16:=by omega
 have i4:(0:Int)≤(m:Int)+1:=by omega
 clear hm
 go_region
 go_wp2
 exact bodyPost_ret (v:=.agg #[.int .u32 x,.int .u32 y]) (by simp[results,Tryz.results108,go_sem,d0,d1]) rfl ⟨rfl,((HB.out.setCell (Nat.le_succ _) _).setCell (Nat.le_succ _) _).drew⟩
theorem gAllow {w:World} {sa:Option Addr} {b off:Nat} {l:List Rg} (hr:Regs w sa b off l) (hu:∀ r∈l,RgU r) (n cap:Nat) (hn:n=l.length) (hm:n≤1000000000) (p s h:Int) (hp:U32 p) (hs:U32 s) :
  Calls Tryz.prog 82 #[.slice sa n cap,.int .u32 p,.int .u32 s,.int .i64 h] w fun e w'=>e=.returned (.bool (z2m l p s h))∧Below w.heap.size w w':=by
 have HR:Hid _:=hr
 have HU:Hid _:=hu
 have HN:Hid (n=l.length):=hn
 clear hr hu hn
 rw[allowV_any]
 generalize hv:(l.any fun r=>z6t r p s&&z4q r h)=V
 have HV:Hid ((l.any fun r=>z6t r p s&&z4q r h)=V):=hv
 clear hv
 go_enter Tryz.func82,Tryz.ntmps82
 go_wp2_with fail
 go_loopw [10,13] (fun _ i wr=>∃ k:Nat,k≤n∧i=.int .i64 k∧Hid ((∀ j,j<k→(z6t (rgAt l j) p s&&z4q (rgAt l j) h)=false)∧Below w.heap.size w wr)) (fun _ i _=>n-(intOf i).toNat)
 case atStart=>exact⟨0,Nat.zero_le _,rfl,fun j hj=>absurd hj (Nat.not_lt_zero _),Below.refl _ _⟩
 case round=>
  obtain⟨k,hk,rfl,hi⟩:=hrel
  by_cases hlt:k<n
  ·have hl:k<l.length:=by rw[← HN.out];exact hlt
   have esa:=HR.out.sa (by omega)
   subst esa
   have hR:=HR.out.below hi.out.2
   have q0:wr.cell? ⟨b,off+k*4,none⟩=some (.int .u32 (rgAt l k).lo):=hR.cell k hl 0 _ rfl
   have q1:wr.cell? ⟨b,off+k*4+1,none⟩=some (.int .u32 (rgAt l k).hi):=hR.cell k hl 1 _ rfl
   have q2:wr.cell? ⟨b,off+k*4+2,none⟩=some (.bool (rgAt l k).x):=hR.cell k hl 2 _ rfl
   have q3:wr.cell? ⟨b,off+k*4+3,none⟩=some (.bool (rgAt l k).w):=hR.cell k hl 3 _ rfl
   have C1:Hid _:=gcovers (rgAt l k) (rgAt_u HU.out k) p s hp hs
   have C2:Hid _:=gpermits (rgAt l k) h
   have HT:Hid ((z6t (rgAt l k) p s&&z4q (rgAt l k) h)=true→V=true):=fun ht=>by rw[← HV.out];exact any_at (f:=fun r=>z6t r p s&&z4q r h) hl ht
   have HF:Hid ((z6t (rgAt l k) p s&&z4q (rgAt l k) h)=false→∀ j,j<k+1→(z6t (rgAt l j) p s&&z4q (rgAt l j) h)=false):=fun hf j hj=>by
    by_cases hjk:j=k
    ·rw[hjk];exact hf
    ·exact hi.out.1 j (by omega)
   have HB:Hid (Below w.heap.size w wr):=hi.out.2
   clear hR hi hl HR HU HN HV hp hs
   generalize rgAt l k=r at *
   generalize hc:z6t r p s=cv at *
   generalize hd:z4q r h=pv at *
   clear hc hd
   obtain⟨lo,hi,x,y⟩:=r
   simp only at q0 q1 q2 q3
   unfold rval at C1 C2
   simp only at C1 C2
   go_wp2_with fail
   refine (C1.out _).mono ?_
   rintro e w1 ⟨rfl,b1⟩
   have k1:=z0m b1
   obtain⟨dc,df,ds⟩:=z0a k1
   have d0:=dc 0 (.int .u32 lo) rfl
   have d1:=dc 1 (.int .u32 hi) rfl
   have d2:=dc 2 (.bool x) rfl
   have d3:=dc 3 (.bool y) rfl
   have HB1:Hid (Below w.heap.size w w1):=z0e HB.out (z1u b1)
   clear dc df k1 b1 HB
   cases cv
   ·go_wp2_with fail
    exact⟨⟨k+1,hlt,by go_num,HF.out rfl,HB1.out⟩,by simp[intOf];omega⟩
   ·go_wp2_with fail
    refine (C2.out _).mono ?_
    rintro e w2 ⟨rfl,b2⟩
    have HB2:Hid (Below w.heap.size w w2):=z0e HB1.out b2
    clear b2 HB1
    cases pv
    ·go_wp2_with fail
     exact⟨⟨k+1,hlt,by go_num,HF.out rfl,HB2.out⟩,by simp[intOf];omega⟩
    ·have ht:=HT.out rfl
     subst ht
     go_wp2
     go_ret
     exact⟨rfl,HB2.out⟩
  ·have hkn:k=n:=by omega
   subst hkn
   have e:V=false:=by
    rw[← HV.out]
    exact any_none (f:=fun r=>z6t r p s&&z4q r h) fun i h=>hi.out.1 i (by rw[HN.out];exact h)
   subst e
   go_wp2
   go_ret
   exact⟨rfl,hi.out.2⟩
section
open Go.RowKit Go.Maps
theorem gundK:Tryz.prog.underlying 176=some (.array 2 31):=by kernel_rfl
theorem gundM:Tryz.prog.underlying 173=some (.map 176 170):=by kernel_rfl
theorem glaidB:laidOutB Tryz.prog=true:=by kernel_rfl
theorem growK:(176:TypeId)<Tryz.prog.types.size:=of_decide_eq_true (by kernel_rfl)
theorem gkeyed:Keyed Tryz.prog 176:=Keyed.of_law (deep_law_laid glaidB (m:=2) (by omega) growK (by kernel_rfl) (by rw[gundK]))
def kpV (a b:Int):Lit:=.string (keyBytes [.int .u32 a,.int .u32 b])
theorem gwf_u32 {a:Int} (h:U32 a):(Lit.int .u32 a).wf=true:=by
 obtain⟨h0,h1⟩:=h
 simp[Lit.wf,IntKind.min,IntKind.max,IntKind.bits,IntKind.signed]
 omega
theorem gkeyType:Tryz.prog.keyType 176=true:=by kernel_rfl
theorem gsizeT:∃ n,Tryz.prog.types.size+1=n+2:=⟨_,rfl⟩
theorem gcellsK:Tryz.prog.cellsOf 176=2:=by kernel_rfl
theorem gcellsW:Tryz.prog.cellsOf 31=1:=by kernel_rfl
theorem gkey_of {a b:Int} (ha:U32 a) (hb:U32 b):keyOf Tryz.prog 176 (pval a b)=some (kpV a b):=by
 unfold pval
 have f:(Value.agg #[.int .u32 a,.int .u32 b]).formed Tryz.prog 176=true:=by simp[Value.formed,gcellsK]
 obtain⟨n,hn⟩:=gsizeT
 unfold keyOf
 rw[gundK,gkeyType,f,hn]
 simp[Value.cells,Program.keyLits,gcellsK,gcellsW,gwf_u32 ha,gwf_u32 hb,List.range,List.range.loop,kpV]
theorem kp_inj {a b a' b':Int} (ha:U32 a) (hb:U32 b) (ha':U32 a') (hb':U32 b') (h:kpV a b=kpV a' b'):a=a'∧b=b':=by
 have h1:=gkey_of ha hb
 have h2:=gkey_of ha' hb'
 rw[h] at h1
 have:=gkeyed.inj h1 h2
 unfold pval at this
 injection this with e
 simp only[Array.mk.injEq,List.cons.injEq,Value.int.injEq,true_and,and_true] at e
 exact e
def datR (r:Rg):DataW Unit:=.agg [.lit (.int .u32 r.lo),.lit (.int .u32 r.hi),.lit (.bool r.x),.lit (.bool r.w)]
def readR (v:Value):Option (DataW Unit × List MemPlace):=
 match v with
 | .agg cs=>match cs.toList with
  | [.int .u32 a,.int .u32 b,.bool x,.bool y]=>some (datR ⟨a,b,x,y⟩,[])
  | _=>none
 | _=>none
theorem readR_mk (r:Rg):readR (rval r)=some (datR r,[]):=rfl
theorem readR_inv {v:Value} {r:Rg} {ps:List MemPlace} (h:readR v=some (datR r,ps)):v=rval r:=by
 obtain⟨lo,hi,x,y⟩:=r
 unfold readR at h
 split at h
 ·rename_i cs
  split at h
  ·rename_i a b x' y' hl
   simp only[Option.some.injEq,Prod.mk.injEq,datR,DataW.agg.injEq,List.cons.injEq,DataW.lit.injEq,Lit.int.injEq,Lit.bool.injEq,true_and,and_true] at h
   obtain⟨⟨h1,h2,h3,h4⟩,_⟩:=h
   subst h1 h2 h3 h4
   unfold rval
   congr 1
   have:=congrArg List.toArray hl
   simpa using this
  ·cases h
 ·cases h
def z6v (ws:Nat→Int) (k:Nat) (D:DataW Unit):Prop:=∀ a b,U32 a→U32 b→
 (Maps.has D (kpV a b)=true∧∀ z,D.atKey (kpV a b) z=datR (z7c a b))∨
 ((∀ j,j<k→¬(ws (2*j)=a∧ws (2*j+1)=b))∧Maps.has D (kpV a b)=false)
theorem pm_start (ws:Nat→Int):z6v ws 0 (.map []):=fun _ _ _ _=>Or.inr ⟨fun j hj=>absurd hj (Nat.not_lt_zero j),rfl⟩
theorem pm_skip {ws:Nat→Int} {k:Nat} {D:DataW Unit} (h:z6v ws k D) (hk:Maps.has D (kpV (ws (2*k)) (ws (2*k+1)))=true):z6v ws (k+1) D:=by
 intro a b ha hb
 rcases h a b ha hb with h1 | ⟨h1,h2⟩
 ·exact Or.inl h1
 ·refine Or.inr ⟨fun j hj e=>?_,h2⟩
  rcases Nat.lt_succ_iff_lt_or_eq.mp hj with h3 | h3
  ·exact h1 j h3 e
  ·rw[h3] at e
   rw[e.1,e.2,h2] at hk
   cases hk
theorem pm_put {ws:Nat→Int} {k:Nat} {D:DataW Unit} (hu:∀ i,U32 (ws i)) (hD:IsMap D) (h:z6v ws k D) :
  z6v ws (k+1) (D.put (kpV (ws (2*k)) (ws (2*k+1))) (datR (z7c (ws (2*k)) (ws (2*k+1))))):=by
 intro a b ha hb
 by_cases e:ws (2*k)=a∧ws (2*k+1)=b
 ·obtain⟨rfl,rfl⟩:=e
  have hkl:=gkeyed.key (gkey_of ha hb)
  exact Or.inl ⟨has_put_same hD hkl _,fun z=>atKey_put_same hD hkl _ z⟩
 ·have hne:kpV a b≠kpV (ws (2*k)) (ws (2*k+1)):=fun h=>e (by
   obtain⟨h1,h2⟩:=kp_inj ha hb (hu _) (hu _) h
   exact⟨h1.symm,h2.symm⟩)
  rw[has_put_other hne]
  rcases h a b ha hb with ⟨h1,h2⟩ | ⟨h1,h2⟩
  ·exact Or.inl ⟨h1,fun z=>by rw[atKey_put_other hne];exact h2 z⟩
  ·refine Or.inr ⟨fun j hj=>?_,h2⟩
   rcases Nat.lt_succ_iff_lt_or_eq.mp hj with h | h
   ·exact h1 j h
   ·rw[h];exact e
theorem gzeroRg (w:World):(zeroValue 170).run Tryz.prog w=.ok (rval noRg) w:=by kernel_rfl
theorem gfind {ws:Nat→Int} {k:Nat} {D:DataW Unit} {n g:Nat} {w:World} (hm:z6v ws k D) (hown:w.ownsMap Tryz.prog 176 readR g n D) {a b:Int} (ha:U32 a) (hb:U32 b) :
  ∃ r ok,(Instr.lookup 173 (.map (some g)) (pval a b) true).run Tryz.prog w=.ok (.tuple #[rval r,.bool ok]) w∧Maps.has D (kpV a b)=ok:=by
 obtain⟨v',ps,hrun,hv⟩:=hown.look_ok gkeyed gundM (gzeroRg w) (readR_mk _) (gkey_of ha hb)
 rcases hm a b ha hb with ⟨h1,h2⟩ | ⟨h1,h2⟩
 ·rw[h2] at hv
  exact⟨z7c a b,true,by rw[hrun,readR_inv hv,h1],h1⟩
 ·rw[atKey_of_not_has h2] at hv
  exact⟨noRg,false,by rw[hrun,readR_inv hv,h2],h2⟩
theorem glook {ws:Nat→Int} {k:Nat} {D:DataW Unit} {n g:Nat} {w:World} (hm:z6v ws k D) (hown:w.ownsMap Tryz.prog 176 readR g n D) (hu:∀ i,U32 (ws i)) {j:Nat} (hj:j<k) :
  (Instr.lookup 173 (.map (some g)) (pval (ws (2*j)) (ws (2*j+1))) false).run Tryz.prog w=.ok (rval (z7c (ws (2*j)) (ws (2*j+1)))) w:=by
 obtain⟨v',ps,hrun,hv⟩:=hown.lookup gkeyed gundM (gzeroRg w) (readR_mk _) (gkey_of (hu (2*j)) (hu (2*j+1)))
 rcases hm _ _ (hu (2*j)) (hu (2*j+1)) with ⟨h1,h2⟩ | ⟨h1,h2⟩
 ·rw[h2] at hv
  rw[hrun,readR_inv hv]
 ·exact absurd ⟨rfl,rfl⟩ (h1 j hj)
structure KeepSt (w:World) (ws:Nat→Int) (k:Nat) (D:DataW Unit) (wr:World):Prop where
 row:wr.heap[w.heap.size]?=some (.cells (z2n ws) 35)
 own:wr.ownsMap Tryz.prog 176 readR (w.heap.size+1) k D
 map:z6v ws k D
 below:Below w.heap.size w wr
theorem z8p {w w':World} {g n:Nat} {D:DataW Unit} (h:w.ownsMap Tryz.prog 176 readR g n D) (hb:Below w.heap.size w w'):w'.ownsMap Tryz.prog 176 readR g n D:=by
 obtain⟨es,clock,h1,h2⟩:=h
 exact⟨es,clock,z0f h1 hb,h2⟩
theorem gkeep (ws:Nat→Int) (hu:∀ i,U32 (ws i)) (w:World) :
  Calls Tryz.prog 107 #[.agg (z2n ws)] w fun e w'=>∃ g D,e=.returned (.map (some g))∧w.heap.size≤g∧Below w.heap.size w w'∧w'.ownsMap Tryz.prog 176 readR g 8 D∧z6v ws 8 D:=by
 have HU:Hid _:=hu
 clear hu
 have hbox:∀ w,(Instr.box 35 (.agg (z2n ws))).run Tryz.prog w=.ok (.pointer (some ⟨w.heap.size,0,none⟩)) (w.alloc (.cells (z2n ws) 35)):=fun w=>by kernel_rfl
 have hmk:∀ w,(Instr.makeMap 173 (some (.int .i64 8))).run Tryz.prog w=.ok (.map (some w.heap.size)) (w.alloc (.map #[] 0)):=fun w=>by kernel_rfl
 have hown0:=World.ownsMap_made (w.alloc (.cells (z2n ws) 35)) Tryz.prog 176 readR
 rw[World.size_alloc] at hown0
 have R0:Hid (KeepSt w ws 0 (.map []) ((w.alloc (.cells (z2n ws) 35)).alloc (.map #[] 0))):=⟨z0m ((Below.refl _ _).alloc (Nat.le_refl _) _),hown0,pm_start ws,box2⟩
 go_enter Tryz.func107,Tryz.ntmps107
 go_wp2_with fail
 generalize (w.alloc (.cells (z2n ws) 35)).alloc (.map #[] 0)=V at *
 clear hbox hmk hown0
 go_loopw [9] (fun i wr=>∃ (k:Nat) (D:DataW Unit),k≤8∧i=.int .i64 k∧Hid (KeepSt w ws k D wr)) (fun i _=>8-(intOf i).toNat)
 case atStart=>exact⟨0,.map [],Nat.zero_le _,rfl,R0.out⟩
 case round=>
  clear R0
  obtain⟨k,D,hk,rfl,hr⟩:=hrel
  have hws:w.heap.size≤wr.heap.size:=hr.out.below.size
  by_cases hlt:k<8
  ·have C1:Hid _:=gpairAt ws k hlt
   have u1:=HU.out (2*k)
   have u2:=HU.out (2*k+1)
   have HS:Hid (∀ D',Maps.has D (kpV (ws (2*k)) (ws (2*k+1)))=true→D'=D→z6v ws (k+1) D'):=fun D' h e=>by rw[e];exact pm_skip hr.out.map h
   have HP:Hid (z6v ws (k+1) (D.put (kpV (ws (2*k)) (ws (2*k+1))) (datR (z7c (ws (2*k)) (ws (2*k+1)))))):=pm_put HU.out hr.out.own.isMap hr.out.map
   generalize ws (2*k)=a at *
   generalize ws (2*k+1)=b at *
   go_wp2_with (first | (refine wpList_load_row rfl 35 (.tmp 1) rfl _ rfl _ _ _ _ hr.out.row z7e rfl (by rw[z1r];exact z4r) ?_))
   refine (C1.out _).mono ?_
   rintro e w1 ⟨rfl,b1⟩
   have hr1:Hid (KeepSt w ws k D w1):=⟨z0f hr.out.row b1,z8p hr.out.own b1,hr.out.map,z0e hr.out.below b1⟩
   clear b1 hr hws
   have Hkey:Hid _:=gkey_of u1 u2
   have C2:Hid _:=gregionOf a b u1 u2
   obtain⟨r,ok,hf,hok⟩:=gfind (hr1.out.map) (hr1.out.own.alloc (.cells #[.int .u32 a,.int .u32 b] 176)) u1 u2
   unfold pval at hf ⊢
   obtain⟨lo,hi,x,y⟩:=r
   unfold rval at hf
   simp only at hf
   have hws:w.heap.size≤w1.heap.size:=hr1.out.below.size
   have HW:Hid (∀ o o':Obj,Below w1.heap.size w1 ((w1.alloc o).alloc o')):=fun o o'=>box2
   cases ok
   ·go_wp2_with fail
    have kp:((w1.alloc (.cells #[.int .u32 a,.int .u32 b] 176)).alloc (.cells #[.int .u32 lo,.int .u32 hi,.bool x,.bool y] 170)).heap[w1.heap.size]?=some (.cells #[.int .u32 a,.int .u32 b] 176):=z0m ((Below.refl _ _).alloc (Nat.le_refl _) _)
    have hr2:Hid (KeepSt w ws k D ((w1.alloc (.cells #[.int .u32 a,.int .u32 b] 176)).alloc (.cells #[.int .u32 lo,.int .u32 hi,.bool x,.bool y] 170))):=by
     have bb:=HW.out (.cells #[.int .u32 a,.int .u32 b] 176) (.cells #[.int .u32 lo,.int .u32 hi,.bool x,.bool y] 170)
     exact⟨z0f hr1.out.row bb,z8p hr1.out.own bb,hr1.out.map,z0e hr1.out.below bb⟩
    generalize (w1.alloc (.cells #[.int .u32 a,.int .u32 b] 176)).alloc (.cells #[.int .u32 lo,.int .u32 hi,.bool x,.bool y] 170)=W at *
    generalize w1.heap.size=p0 at *
    obtain⟨cc,_,cs⟩:=z0a kp
    have c0:=cc 0 (.int .u32 a) rfl
    have c1:=cc 1 (.int .u32 b) rfl
    clear cc kp hf hok hr1 HW hws
    generalize hrv:z7c a b=R at *
    refine z1b 4 [] [.map (some (w.heap.size+1)),.agg #[.int .u32 a,.int .u32 b],.agg #[.int .u32 a,.int .u32 b],rval R] (by kernel_rfl) (by kernel_rfl) (by kernel_rfl) (by intro r hr;cases hr) ?_ (by intro r hr;cases hr) (by intro r hr;cases hr) ?_
    ·generalize hl:lay _ _ _=af
     have e3:af.tmps[3]?.getD undef=.map (some (w.heap.size+1)):=by rw[← hl];kernel_rfl
     have e5:af.tmps[5]?.getD undef=.pointer (some ⟨p0,0,none⟩):=by rw[← hl];kernel_rfl
     have e25:af.tmps[25]?.getD undef=.agg #[.int .u32 a,.int .u32 b]:=by rw[← hl];kernel_rfl
     clear hl
     refine And.intro (fun w' hw=>?_) ?_
     ·exact z0d (by simp[execOp,go_sem,e3])
     refine And.intro (fun w' hw=>?_) ?_
     ·have q0:=hw.cell (p:=⟨p0,0,none⟩) cs
      have q1:=hw.cell (p:=⟨p0,1,none⟩) cs
      rw[c0] at q0
      rw[c1] at q1
      exact z0d (by simp[execOp,go_sem,e5,q0,q1])
     refine And.intro (fun w' hw=>?_) ?_
     ·have q0:=hw.cell (p:=⟨p0,0,none⟩) cs
      have q1:=hw.cell (p:=⟨p0,1,none⟩) cs
      rw[c0] at q0
      rw[c1] at q1
      exact z0d (by simp[execOp,go_sem,e5,q0,q1])
     refine And.intro (fun w' hw=>?_) ?_
     ·exact z1k 117 #[.agg #[.int .u32 a,.int .u32 b]] (by simp[go_sem,e25]) (C2.out _)
     exact True.intro
    ·intro β3 W3 hW3 _ _
     have hr3:Hid (KeepSt w ws k D W3):=⟨z0f hr2.out.row hW3,z8p hr2.out.own hW3,hr2.out.map,z0e hr2.out.below hW3⟩
     clear hr2 hW3 c0 c1 cs
     simp[z3o,lay,Act.put]
     go_wp2_with (first | (at_mapUpdate;refine wpList_mapUpdate_own _ rfl _ _ _ 173 rfl 176 170 gkeyed gundM readR (w.heap.size+1) k D rfl hr3.out.own (by unfold maxLen;omega) _ _ _ rfl rfl Hkey.out _ [] (readR_mk R) ?_;intro w2 hown2 hgrow2))
     have hlt3:=(Array.getElem?_eq_some_iff.1 hr3.out.row).1
     exact⟨⟨k+1,_,by omega,by go_num,(hgrow2.block _ hlt3 (by simp)).trans hr3.out.row,hown2,HP.out,z4b hr3.out.below hgrow2 hr3.out.below.size (Nat.le_succ _)⟩,by simp[intOf];omega⟩
   ·go_wp2_with fail
    have bb:=HW.out (.cells #[.int .u32 a,.int .u32 b] 176) (.cells #[.int .u32 lo,.int .u32 hi,.bool x,.bool y] 170)
    exact⟨⟨k+1,D,by omega,by go_num,z0f hr1.out.row bb,(z8p hr1.out.own bb).mono (by omega),HS.out D hok rfl,z0e hr1.out.below bb⟩,by simp[intOf];omega⟩
  ·have hk8:k=8:=by omega
   subst hk8
   go_wp2
   go_ret
   exact⟨_,D,rfl,Nat.le_succ _,hr.out.below,hr.out.own,hr.out.map⟩
end
theorem regs_block {w:World} {b:Nat} {l:List Rg} {t:TypeId} (h:w.heap[b]?=some (.cells (rrow l).toArray t)):Regs w (some ⟨b,0,none⟩) b 0 l:=by
 obtain⟨cc,_,cs⟩:=z0a h
 refine⟨fun _=>rfl,fun _=>cs,fun i hi f v hv=>?_⟩
 have hf:f<4:=by
  have:=(List.getElem?_eq_some_iff.1 hv).1
  simpa [z6k] using this
 rw[show 0+i*4+f=i*4+f by omega]
 exact cc _ _ (by rw[List.getElem?_toArray,rrow_at l i f hi hf];exact hv)
section
open Go.RowKit Go.Maps
def ofK (ws:Nat→Int) (k:Nat):List Rg:=(List.range 8).map fun i=>if i<k then z7c (ws (2*i)) (ws (2*i+1)) else noRg
theorem ofK_len (ws:Nat→Int) (k:Nat):(ofK ws k).length=8:=by simp[ofK]
theorem ofK_at (ws:Nat→Int) (k i:Nat) (h:i<8):rgAt (ofK ws k) i=if i<k then z7c (ws (2*i)) (ws (2*i+1)) else noRg:=by
 unfold rgAt ofK
 rw[List.getD_eq_getElem?_getD]
 simp[h]
theorem ofK_all (ws:Nat→Int):ofK ws 8=ofV ws:=by
 unfold ofK ofV
 apply List.map_congr_left
 intro i hi
 rw[if_pos (by simpa using hi)]
theorem rgAt_ext {l m:List Rg} (hl:l.length=m.length) (h:∀ i,i<l.length→rgAt l i=rgAt m i):l=m:=by
 apply List.ext_getElem hl
 intro i h1 h2
 have:=h i h1
 unfold rgAt at this
 rw[List.getD_eq_getElem?_getD,List.getD_eq_getElem?_getD,List.getElem?_eq_getElem h1,List.getElem?_eq_getElem h2] at this
 exact this
theorem ofK_next (ws:Nat→Int) (k:Nat) (hk:k<8):(ofK ws k).set k (z7c (ws (2*k)) (ws (2*k+1)))=ofK ws (k+1):=by
 apply rgAt_ext (by simp[ofK_len])
 intro i hi
 rw[List.length_set,ofK_len] at hi
 rw[ofK_at _ _ _ hi]
 have e:rgAt ((ofK ws k).set k (z7c (ws (2*k)) (ws (2*k+1)))) i=if k=i then z7c (ws (2*k)) (ws (2*k+1)) else rgAt (ofK ws k) i:=by
  unfold rgAt
  rw[List.getD_eq_getElem?_getD,List.getD_eq_getElem?_getD,List.getElem?_set]
  by_cases h:k=i
  ·rw[if_pos h,if_pos h,if_pos (by rw[ofK_len];omega)];rfl
  ·rw[if_neg h,if_neg h]
 rw[e]
 by_cases h:k=i
 ·subst h;rw[if_pos rfl,if_pos (by omega)]
 ·rw[if_neg h,ofK_at _ _ _ hi]
  by_cases h2:i<k
  ·rw[if_pos h2,if_pos (by omega)]
  ·rw[if_neg h2,if_neg (by omega)]
theorem rrow_set (l:List Rg):∀ (k:Nat) (r:Rg),k<l.length→
  ((((rrow l).set (k*4) (.int .u32 r.lo)).set (k*4+1) (.int .u32 r.hi)).set (k*4+2) (.bool r.x)).set (k*4+3) (.bool r.w)=rrow (l.set k r):=by
 induction l with
 | nil=>intro k r h;cases h
 | cons q l ih=>
  intro k r h
  cases k with
  | zero=>simp[rrow,z8o]
  | succ k=>
   have:=ih k r (by simpa using h)
   have e:rrow (q::l)=.int .u32 q.lo :: .int .u32 q.hi :: .bool q.x :: .bool q.w::rrow l:=by simp[rrow,z8o]
   have e2:rrow ((q::l).set (k+1) r)=.int .u32 q.lo :: .int .u32 q.hi :: .bool q.x :: .bool q.w::rrow (l.set k r):=by simp[rrow,z8o]
   rw[e,e2,← this,show (k+1)*4=k*4+1+1+1+1 by omega]
   simp[List.set_cons_succ]
theorem ofK_zero (ws:Nat→Int):ofK ws 0=ofK (fun _=>0) 0:=by
 unfold ofK
 apply List.map_congr_left
 intro i _
 rw[if_neg (by omega),if_neg (by omega)]
structure OfKSt (w:World) (ws:Nat→Int) (g s:Nat) (D:DataW Unit) (k:Nat) (wr:World):Prop where
 row:wr.heap[w.heap.size]?=some (.cells (z2n ws) 35)
 own:wr.ownsMap Tryz.prog 176 readR g 8 D
 out:wr.heap[s]?=some (.cells (rrow (ofK ws k)).toArray 170)
 below:Below w.heap.size w wr
theorem gOf (ws:Nat→Int) (hu:∀ i,U32 (ws i)) (w:World):Calls Tryz.prog 83 #[.agg (z2n ws)] w fun e w'=>∃ g off cap,e=.returned (.slice (some ⟨g,off,none⟩) 8 cap)∧w.heap.size≤g∧g<w'.heap.size∧8≤cap∧Regs w' (some ⟨g,off,none⟩) g off (ofV ws)∧Below w.heap.size w w':=by
 have HU:Hid _:=hu
 clear hu
 have C1:Hid _:=gkeep ws HU.out
 have hbox:∀ w,(Instr.box 35 (.agg (z2n ws))).run Tryz.prog w=.ok (.pointer (some ⟨w.heap.size,0,none⟩)) (w.alloc (.cells (z2n ws) 35)):=fun w=>by kernel_rfl
 have hmk:∀ w,(Instr.makeSlice 135 (.int .i64 8) (.int .i64 8)).run Tryz.prog w=.ok (.slice (some ⟨w.heap.size,0,none⟩) 8 8) (w.alloc (.cells (rrow (ofK (fun _=>0) 0)).toArray 170)):=fun w=>by kernel_rfl
 go_enter Tryz.func83,Tryz.ntmps83
 go_wp2_with (first | (refine wpList_load_row rfl 35 (.tmp 1) rfl _ rfl _ _ _ _ (z0g w _) z7e rfl (by rw[z1r];exact z4r) ?_))
 refine (C1.out _).mono ?_
 rintro e w1 ⟨g,D,rfl,hg,b1,hown,hmap⟩
 rw[← ofK_zero ws] at hmk
 have R0:Hid (OfKSt w ws g w1.heap.size D 0 (w1.alloc (.cells (rrow (ofK ws 0)).toArray 170))):=
  ⟨z0f (z0m b1) ((Below.refl _ _).alloc (Nat.le_refl _) _),hown.alloc _,z0g _ _,z0e (z1u b1) ((Below.refl _ _).alloc (Nat.le_refl _) _)⟩
 have hgs:g<w1.heap.size:=hown.lt
 have hwg:w.heap.size<g:=by rw[World.size_alloc] at hg;omega
 have HM:Hid _:=hmap
 clear b1 hown hmap hbox C1 hg
 go_wp2_with fail
 generalize w1.alloc (.cells (rrow (ofK ws 0)).toArray 170)=V at *
 generalize w1.heap.size=s at *
 clear hmk
 go_loopw [11] (fun i wr=>∃ (k:Nat),k≤8∧i=.int .i64 k∧Hid (OfKSt w ws g s D k wr)) (fun i _=>8-(intOf i).toNat)
 case atStart=>exact⟨0,Nat.zero_le _,rfl,R0.out⟩
 case round=>
  clear R0
  obtain⟨k,hk,rfl,hr⟩:=hrel
  by_cases hlt:k<8
  ·have C2:Hid _:=gpairAt ws k hlt
   go_wp2_with (first | (refine wpList_load_row rfl 35 (.tmp 1) rfl _ rfl _ _ _ _ hr.out.row z7e rfl (by rw[z1r];exact z4r) ?_))
   refine (C2.out _).mono ?_
   rintro e w2 ⟨rfl,b2⟩
   have hr2:Hid (OfKSt w ws g s D k w2):=⟨z0f hr.out.row b2,z8p hr.out.own b2,z0f hr.out.out b2,z0e hr.out.below b2⟩
   clear hr b2
   have hl:=glook HM.out hr2.out.own HU.out hlt
   have HX:Hid _:=ofK_next ws k hlt
   generalize z7c (ws (2*k)) (ws (2*k+1))=r at *
   have HY:Hid _:=rrow_set (ofK ws k) k r (by rw[ofK_len];exact hlt)
   generalize ws (2*k)=a at *
   generalize ws (2*k+1)=b at *
   obtain⟨cc,cf,cs⟩:=z0a hr2.out.out
   have q:∀ f v,(z8o (rgAt (ofK ws k) k))[f]?=some v→w2.cell? ⟨s,k*4+f,none⟩=some v:=fun f v hv=>by
    have hf:f<4:=by
     have:=(List.getElem?_eq_some_iff.1 hv).1
     simpa [z6k] using this
    exact cc _ _ (by rw[List.getElem?_toArray,rrow_at _ k f (by rw[ofK_len];exact hlt) hf];exact hv)
   have q0:=q 0 _ rfl
   have q1:=q 1 _ rfl
   have q2:=q 2 _ rfl
   have q3:=q 3 _ rfl
   rw[Nat.add_zero] at q0
   have f0:=cf (k*4)
   have f1:=cf (k*4+1)
   have f2:=cf (k*4+2)
   have f3:=cf (k*4+3)
   obtain⟨lo,hi,x,y⟩:=r
   unfold rval at hl
   unfold pval at hl ⊢
   simp only at hl
   clear cc cf q
   generalize rgAt (ofK ws k) k=r0 at *
   go_wp2_with fail
   have n1:w.heap.size≠s:=by omega
   have n2:g≠s:=by omega
   have n3:w.heap.size≤s:=by omega
   have hB:Below w.heap.size w ((((w2.setCell ⟨s,k*4,none⟩ (.int .u32 lo)).setCell ⟨s,k*4+1,none⟩ (.int .u32 hi)).setCell ⟨s,k*4+2,none⟩ (.bool x)).setCell ⟨s,k*4+3,none⟩ (.bool y)):=
    (((hr2.out.below.setCell n3 _).setCell n3 _).setCell n3 _).setCell n3 _
   have hK:∀ b,b≠s→((((w2.setCell ⟨s,k*4,none⟩ (.int .u32 lo)).setCell ⟨s,k*4+1,none⟩ (.int .u32 hi)).setCell ⟨s,k*4+2,none⟩ (.bool x)).setCell ⟨s,k*4+3,none⟩ (.bool y)).heap[b]?=w2.heap[b]?:=fun b hb=>by
    rw[Below.heap_setCell _ _ _ _ hb,Below.heap_setCell _ _ _ _ hb,Below.heap_setCell _ _ _ _ hb,Below.heap_setCell _ _ _ _ hb]
   have hO:=z1p (i:=k*4+3) (.bool y) (z1p (i:=k*4+2) (.bool x) (z1p (i:=k*4+1) (.int .u32 hi) (z1p (i:=k*4) (.int .u32 lo) hr2.out.out)))
   simp only[List.setIfInBounds_toArray] at hO
   rw[HY.out,HX.out] at hO
   refine⟨⟨k+1,by omega,by go_num,(hK _ n1).trans hr2.out.row,?_,hO,hB⟩,by simp[intOf];omega⟩
   obtain⟨es,clock,h1,h2⟩:=hr2.out.own
   exact⟨es,clock,(hK _ n2).trans h1,h2⟩
  ·have hk8:k=8:=by omega
   subst hk8
   have ho:=hr.out.out
   rw[ofK_all] at ho
   go_wp2
   go_ret
   exact⟨s,0,8,rfl,by omega,(Array.getElem?_eq_some_iff.1 ho).1,Nat.le_refl _,regs_block ho,hr.out.below⟩
end
def byteV (x:Int) (i:Nat):Int:=x/2 ^ (8*i)%256
def byteAt (l:List Int) (j:Nat):Int:=byteV (z0p l (j/4)) (j%4)
theorem byteV_bd (x:Int) (i:Nat):0≤byteV x i∧byteV x i<256:=by unfold byteV;omega
theorem byteV_nat (X i:Nat):byteV (X:Int) i=((X/2 ^ (8*i)%2 ^ 8:Nat):Int):=by unfold byteV;simp
theorem byte_eq {a b i j:Nat} (h:∀ t,t<8→a.testBit (8*i+t)=b.testBit (8*j+t)):a/2 ^ (8*i)%2 ^ 8=b/2 ^ (8*j)%2 ^ 8:=by
 refine Nat.eq_of_testBit_eq fun t=>?_
 rw[Nat.testBit_mod_two_pow,Nat.testBit_mod_two_pow,Nat.testBit_div_two_pow,Nat.testBit_div_two_pow]
 by_cases ht:t<8
 ·simp only[ht,decide_true,Bool.true_and]
  rw[Nat.add_comm t,Nat.add_comm t]
  exact h t ht
 ·simp[ht]
theorem mask_nat (q k:Nat) (h:q+k≤4) (k1:1≤k):maskV (q:Int) (k:Int)=(((2 ^ (8*k)-1)*2 ^ (8*q):Nat):Int):=by
 have:(q=0∧k=1)∨(q=0∧k=2)∨(q=0∧k=3)∨(q=0∧k=4)∨(q=1∧k=1)∨(q=1∧k=2)∨(q=1∧k=3)∨(q=2∧k=1)∨(q=2∧k=2)∨(q=3∧k=1):=by omega
 rcases this with ⟨rfl,rfl⟩ | ⟨rfl,rfl⟩ | ⟨rfl,rfl⟩ | ⟨rfl,rfl⟩ | ⟨rfl,rfl⟩ | ⟨rfl,rfl⟩ | ⟨rfl,rfl⟩ | ⟨rfl,rfl⟩ | ⟨rfl,rfl⟩ | ⟨rfl,rfl⟩ <;> decide +kernel
theorem mask_mod (p k:Int):maskV p k=maskV (p%4) k:=by unfold maskV;rw[show p%4%4=p%4 by omega]
theorem storeV_mod (o p k x:Int):z3h o p k x=z3h o (p%4) k x:=by unfold z3h;rw[mask_mod,show p%4%4=p%4 by omega]
theorem mask_bit (q k n:Nat):((2 ^ (8*k)-1)*2 ^ (8*q)).testBit n=(decide (8*q≤n)&&decide (n<8*(q+k))):=by
 rw[Nat.testBit_mul_two_pow,Nat.testBit_two_pow_sub_one]
 by_cases h:8*q≤n
 ·simp only[h,decide_true,Bool.true_and]
  congr 1
  apply propext
  omega
 ·simp[h]
theorem mask_lt (q k:Nat) (h:q+k≤4):(2 ^ (8*k)-1)*2 ^ (8*q)<4294967296:=by
 have h1:2 ^ (8*k)*2 ^ (8*q)≤2 ^ 32:=by rw[← Nat.pow_add];exact Nat.pow_le_pow_right (by omega) (by omega)
 have h2:(2 ^ (8*k)-1)*2 ^ (8*q)<2 ^ (8*k)*2 ^ (8*q):=Nat.mul_lt_mul_of_pos_right (by have:=Nat.two_pow_pos (8*k);omega) (Nat.two_pow_pos _)
 omega
theorem not_mask_bit (m n:Nat) (hm:m<4294967296) (h:n<32):(4294967295-m).testBit n=!m.testBit n:=by
 have:=Nat.testBit_two_pow_sub_succ (x:=m) (n:=32) (by simpa using hm) n
 rw[show (2:Nat) ^ 32-(m+1)=4294967295-m by omega] at this
 rw[this];simp[h]
theorem byte_store (o p x:Int) (k i:Nat) (ho:U32 o) (hx:U32 x) (k1:1≤k) (hk:(p%4).toNat+k≤4) (hi:i<4) :
  byteV (z3h o p k x) i=if (p%4).toNat≤i∧i<(p%4).toNat+k then byteV x (i-(p%4).toNat) else byteV o i:=by
 rw[storeV_mod]
 obtain⟨q,hq⟩:=Int.eq_ofNat_of_zero_le (show 0≤p%4 by omega)
 rw[hq] at hk ⊢
 clear hq
 simp only[Int.toNat_natCast] at hk ⊢
 obtain⟨X,rfl⟩:=Int.eq_ofNat_of_zero_le ho.1
 obtain⟨Y,rfl⟩:=Int.eq_ofNat_of_zero_le hx.1
 have h1:X<4294967296:=by have:=ho.2;omega
 have h2:Y<4294967296:=by have:=hx.2;omega
 have hm:=mask_lt q k hk
 have e1:(Y:Int)*2 ^ ((q:Int)%4*8).toNat%4294967296=((Y*2 ^ (8*q)%2 ^ 32:Nat):Int):=by
  rw[show ((q:Int)%4*8).toNat=8*q by omega]
  simp
 unfold z3h
 rw[mask_nat q k hk k1,e1]
 have h3:Y*2 ^ (8*q)%2 ^ 32<4294967296:=Nat.mod_lt _ (by decide)
 rw[u32_andNot_nat X _ h1 hm,u32_and_nat _ _ h3 hm]
 have h4:X &&& (4294967295-(2 ^ (8*k)-1)*2 ^ (8*q))<4294967296:=Nat.lt_of_le_of_lt Nat.and_le_left h1
 have h5:Y*2 ^ (8*q)%2 ^ 32 &&& (2 ^ (8*k)-1)*2 ^ (8*q)<4294967296:=Nat.lt_of_le_of_lt Nat.and_le_left h3
 rw[u32_or_nat _ _ h4 h5,byteV_nat,byteV_nat,byteV_nat]
 split
 ·rename_i hh
  congr 1
  refine byte_eq fun t ht=>?_
  rw[Nat.testBit_or,Nat.testBit_and,Nat.testBit_and,not_mask_bit _ _ hm (by omega),mask_bit,Nat.testBit_mod_two_pow,Nat.testBit_mul_two_pow]
  have a1:8*q≤8*i+t:=by omega
  have a2:8*i+t<8*(q+k):=by omega
  have a3:8*i+t<32:=by omega
  have a4:8*i+t-8*q=8*(i-q)+t:=by omega
  simp[a1,a2,a3,a4]
 ·rename_i hh
  congr 1
  refine byte_eq fun t ht=>?_
  rw[Nat.testBit_or,Nat.testBit_and,Nat.testBit_and,not_mask_bit _ _ hm (by omega),mask_bit]
  have a:(decide (8*q≤8*i+t)&&decide (8*i+t<8*(q+k)))=false:=by
   by_cases c:8*q≤8*i+t
   ·have:¬(8*i+t<8*(q+k)):=by omega
    simp[this]
   ·simp[c]
  rw[a]
  simp
theorem byte_next (x:Int) (q k:Nat) (hx:U32 x) (h:q+k<4):bits .or .u32 (x/2 ^ (8*q)%2 ^ (8*k)) (byteV x (q+k)*2 ^ (8*k)%4294967296)=x/2 ^ (8*q)%2 ^ (8*(k+1)):=by
 obtain⟨X,rfl⟩:=Int.eq_ofNat_of_zero_le hx.1
 rw[byteV_nat]
 have h1:X/2 ^ (8*(q+k))%2 ^ 8*2 ^ (8*k)<2 ^ 8*2 ^ (8*k):=Nat.mul_lt_mul_of_pos_right (Nat.mod_lt _ (by decide)) (Nat.two_pow_pos _)
 have h2:2 ^ 8*2 ^ (8*k)≤2 ^ 32:=by rw[← Nat.pow_add];exact Nat.pow_le_pow_right (by omega) (by omega)
 have h3:X/2 ^ (8*q)%2 ^ (8*k)<2 ^ (8*k):=Nat.mod_lt _ (Nat.two_pow_pos _)
 have h4:2 ^ (8*k)≤2 ^ 32:=Nat.pow_le_pow_right (by omega) (by omega)
 have e1:((X/2 ^ (8*(q+k))%2 ^ 8:Nat):Int)*2 ^ (8*k)%4294967296=((X/2 ^ (8*(q+k))%2 ^ 8*2 ^ (8*k):Nat):Int):=by
  have:((X/2 ^ (8*(q+k))%2 ^ 8*2 ^ (8*k):Nat):Int)=((X/2 ^ (8*(q+k))%2 ^ 8:Nat):Int)*2 ^ (8*k):=by rw[Int.natCast_mul];simp
  rw[← this]
  omega
 have e2:(X:Int)/2 ^ (8*q)%2 ^ (8*k)=((X/2 ^ (8*q)%2 ^ (8*k):Nat):Int):=by simp
 have e3:(X:Int)/2 ^ (8*q)%2 ^ (8*(k+1))=((X/2 ^ (8*q)%2 ^ (8*(k+1)):Nat):Int):=by simp
 rw[e1,e2,e3,u32_or_nat _ _ (by omega) (by omega)]
 congr 1
 rw[Nat.or_comm,Nat.mul_comm _ (2 ^ (8*k)),← Nat.two_pow_add_eq_or_of_lt h3]
 rw[show 8*(k+1)=8*k+8 by omega,Nat.pow_add,Nat.mod_mul,Nat.div_div_eq_div_mul,← Nat.pow_add,show 8*q+8*k=8*(q+k) by omega]
 omega
theorem bits_low (x:Int) (q k:Nat) (hx:U32 x) (h:q+k≤4) (k1:1≤k):z0j x (q*8) (8*k)=x/2 ^ (8*q)%2 ^ (8*k):=by
 have:=z0t hx (8*q) (8*k) (by omega) (by omega) (by omega)
 rw[← this]
 congr 1
 omega
def z5z (l:List Int) (p k x:Int):List Int:=if askV l.length p k=0 then l.set (p/4).toNat (z3h (z0p l (p/4).toNat) p k x) else l
structure z6w (O:Nat→Prop) (w w':World):Prop where
 os:w'.os=w.os
 tape:w'.tape=w.tape
 output:w'.output=w.output
 size:w.heap.size≤w'.heap.size
 block:∀ k,k<w.heap.size→¬O k→w'.heap[k]?=w.heap[k]?
theorem z6w.below {O:Nat→Prop} {w0 w w':World} (hb:Below w0.heap.size w0 w) (h:z6w O w w') (hO:∀ k,O k→w0.heap.size≤k):Below w0.heap.size w0 w':=
 ⟨h.os.trans hb.os,h.tape.trans hb.tape,h.output.trans hb.output,Nat.le_trans hb.size h.size,fun k hk=>(h.block k (Nat.lt_of_lt_of_le hk hb.size) fun o=>absurd (hO k o) (by omega)).trans (hb.block k hk)⟩
structure Lies (w:World) (m b cap:Nat) (l:List Int):Prop where
 len:1≤l.length∧l.length≤65536
 room:4*l.length≤cap∧cap≤maxLen
 u32:∀ z∈l,U32 z
 two:m≠b
 here:w.cell? ⟨m,0,none⟩=some (.slice (some ⟨b,0,none⟩) (4*l.length) cap)
 byte:∀ j,j<4*l.length→w.cell? ⟨b,j,none⟩=some (.int .u8 (byteAt l j))
 free:∀ j,w.frozen? ⟨b,j,none⟩=false
theorem wordAt_in {l:List Int} (h:∀ z∈l,U32 z) (i:Nat):U32 (z0p l i):=by
 unfold z0p
 rw[List.getD_eq_getElem?_getD]
 cases hi:l[i]? with
 | none=>simp[U32]
 | some z=>simpa using h z (List.mem_of_getElem? hi)
theorem mget {w:World} {m b cap:Nat} {l:List Int} (h:Lies w m b cap l) (p k:Nat) (hk:k=1∨k=2∨k=4) (hp:p%k=0) (hl:p<4*l.length) :
  Calls Tryz.prog 46 #[.pointer (some ⟨m,0,none⟩),.int .i64 (p:Int),.int .i64 (k:Int)] w fun e w'=>e=.returned (.int .u32 (z0j (z0p l (p/4)) ((p%4:Nat)*8) (8*k)))∧w'=w:=by
 have hq:p%4+k≤4:=by rcases hk with rfl | rfl | rfl <;> omega
 have hpk:p+k≤4*l.length:=by have:=h.len;omega
 have hv:=wordAt_in h.u32 (p/4)
 rw[bits_low _ (p%4) k hv hq (by omega)]
 have HB:Hid (∀ i,i<k→w.cell? ⟨b,p+i,none⟩=some (.int .u8 (byteV (z0p l (p/4)) (p%4+i)))):=fun i hi=>by
  rw[h.byte (p+i) (by omega)]
  unfold byteAt
  rw[show (p+i)/4=p/4 by omega,show (p+i)%4=p%4+i by omega]
 have hh:=h.here
 have HV:Hid (U32 (z0p l (p/4))):=hv
 have r1:=h.room.1
 have r2:=h.room.2
 unfold maxLen at r2
 have hn:=h.len.2
 generalize 4*l.length=n at *
 clear h hv
 generalize z0p l (p/4)=v at *
 have HQ:Hid (p%4+k≤4):=hq
 clear hp hq
 generalize p%4=q at *
 go_enter Tryz.func46,Tryz.ntmps46
 go_wp2_with fail
 rw[show p+k-p=k by omega]
 go_loopw [7,8,9,20] (fun x _ _ i wr=>∃ j:Nat,j≤k∧i=.int .i64 j∧x=.int .u32 (v/2 ^ (8*q)%2 ^ (8*j))∧wr=w) (fun _ _ _ i _=>k-(intOf i).toNat)
 case atStart=>exact⟨0,Nat.zero_le _,rfl,by rw[Nat.mul_zero,Int.pow_zero,Int.emod_one],rfl⟩
 case round=>
  obtain⟨j,hj,rfl,rfl,rfl⟩:=hrel
  by_cases hlt:j<k
  ·have c:=HB.out j hlt
   have e:=byte_next v q j HV.out (by have:=HQ.out;omega)
   obtain⟨e0,e1⟩:=byteV_bd v (q+j)
   generalize byteV v (q+j)=y at *
   have HE:Hid (bits .or .u32 (v/2 ^ (8*q)%2 ^ (8*j)) (y*2 ^ (8*j)%4294967296)=v/2 ^ (8*q)%2 ^ (8*(j+1))):=e
   clear e
   go_wp2_with fail
   exact⟨⟨j+1,hlt,by go_num,by rw[← HE.out],trivial⟩,by simp[intOf];omega⟩
  ·have hjk:j=k:=by omega
   subst hjk
   go_wp2
   go_ret
   exact⟨rfl,rfl⟩
structure Raw (w:World) (m b cap n:Nat) (f:Nat→Int):Prop where
 room:n≤cap∧cap≤maxLen
 two:m≠b
 here:w.cell? ⟨m,0,none⟩=some (.slice (some ⟨b,0,none⟩) n cap)
 byte:∀ j,j<n→w.cell? ⟨b,j,none⟩=some (.int .u8 (f j))
 free:∀ j,w.frozen? ⟨b,j,none⟩=false
def upd (f:Nat→Int) (p k:Nat) (x:Int) (j:Nat):Int:=if p≤j∧j<p+k then byteV x (j-p) else f j
theorem upd_zero (f:Nat→Int) (p:Nat) (x:Int):upd f p 0 x=f:=by
 funext j;unfold upd;rw[if_neg (by omega)]
theorem upd_next (f:Nat→Int) (p k:Nat) (x:Int) (j:Nat):upd f p (k+1) x j=if j=p+k then byteV x k else upd f p k x j:=by
 unfold upd
 by_cases h:j=p+k
 ·subst h;rw[if_pos (by omega),if_pos rfl,show p+k-p=k by omega]
 ·rw[if_neg h]
  by_cases h2:p≤j∧j<p+k
  ·rw[if_pos h2,if_pos (by omega)]
  ·rw[if_neg h2,if_neg (by omega)]
theorem z6w.refl (O:Nat→Prop) (w:World):z6w O w w:=⟨rfl,rfl,rfl,Nat.le_refl _,fun _ _ _=>rfl⟩
theorem z6w.put {O:Nat→Prop} {w w':World} {b i:Nat} (h:z6w O w w') (hb:O b) (v:Value):z6w O w (w'.setCell ⟨b,i,none⟩ v):=
 ⟨h.os,h.tape,h.output,by simpa [World.setCell] using h.size,fun k hk ho=>(Below.heap_setCell _ _ _ _ (fun e=>ho (by rw[e];exact hb))).trans (h.block k hk ho)⟩
theorem z6w.trans {O:Nat→Prop} {w w' w'':World} (h:z6w O w w') (h2:z6w O w' w''):z6w O w w'':=
 ⟨h2.os.trans h.os,h2.tape.trans h.tape,h2.output.trans h.output,Nat.le_trans h.size h2.size,fun k hk ho=>(h2.block k (Nat.lt_of_lt_of_le hk h.size) ho).trans (h.block k hk ho)⟩
theorem z6w.draw {O:Nat→Prop} {w w':World} (h:z6w O w w'):z6w O w w'.drew:=⟨h.os,h.tape,h.output,h.size,h.block⟩
theorem Raw.put {w:World} {m b cap n:Nat} {f:Nat→Int} (h:Raw w m b cap n f) (p k:Nat) (x:Int) (hp:p+k<n) {g:Nat→Int} (hg:f=upd g p k x) :
  Raw (w.setCell ⟨b,p+k,none⟩ (.int .u8 (byteV x k))) m b cap n (upd g p (k+1) x):=by
 subst hg
 refine⟨h.room,h.two,?_,fun j hj=>?_,fun j=>?_⟩
 ·rw[World.cell?_of_block (Below.heap_setCell _ _ _ _ h.two)];exact h.here
 ·rw[upd_next]
  by_cases hj2:j=p+k
  ·subst hj2
   have:=h.byte (p+k) hp
   simp[go_sem,this]
  ·rw[if_neg hj2,← h.byte j hj]
   simp[go_sem]
 ·have:=h.free j
  simp[go_sem,this]
theorem Raw.drew {w:World} {m b cap n:Nat} {f:Nat→Int} (h:Raw w m b cap n f):Raw w.drew m b cap n f:=⟨h.room,h.two,h.here,h.byte,h.free⟩
theorem mput {w : World} {m b cap n : Nat} {f : Nat → Int} (h : Raw w m b cap n f) (p k : Nat) (x : Int) (hx : U32 x) (k4 : k ≤ 4) (hp : p + k ≤ n) :
    Calls Tryz.prog 35 #[.pointer (some ⟨m, 0, none⟩), .int .i64 (p : Int), .int .i64 (k : Int), .int .u32 x] w fun e w' => e = .returned (.tuple #[]) ∧ Raw w' m b cap n (upd f p k x) ∧ z6w (· = b) w w' := by
  have R0:Hid _:=h
  have r1:=h.room.1
  have r2:=h.room.2
  unfold maxLen at r2
  clear h
  obtain⟨x0,x1⟩:=hx
  go_enter Tryz.func35,Tryz.ntmps35
  go_wp2_with fail
  go_loopw [8, 10] (fun _ i wr => ∃ j : Nat, j ≤ k ∧ i = .int .i64 j ∧ Hid (Raw wr m b cap n (upd f p j x) ∧ z6w (· = b) w wr)) (fun _ i _ => k - (intOf i).toNat)
  case atStart=>exact⟨0,Nat.zero_le _,rfl,by rw[upd_zero];exact R0.out,z6w.refl _ _⟩
  case round=>
    clear R0
    obtain⟨j,hj,rfl,hr⟩:=hrel
    by_cases hlt:j<k
    · have hh:=hr.out.1.here
      have hc:=hr.out.1.byte (p+j) (by omega)
      have hf:=hr.out.1.free (p+j)
      go_wp2_with fail
      go_region
      go_wp2_with fail
      exact⟨⟨j+1,hlt,by go_num,⟨(hr.out.1.put p j x (by omega) rfl).drew,(hr.out.2.put rfl _).draw⟩⟩,by simp[intOf];omega⟩
    · have hjk:j=k:=by omega
      subst hjk
      go_wp2
      go_end0
      exact⟨rfl,hr.out⟩
theorem Lies.raw {w:World} {m b cap:Nat} {l:List Int} (h:Lies w m b cap l):Raw w m b cap (4*l.length) (byteAt l):=⟨h.room,h.two,h.here,h.byte,h.free⟩
theorem Raw.lies {w:World} {m b cap n:Nat} {f:Nat→Int} {l:List Int} (h:Raw w m b cap n f) (hn:n=4*l.length) (h1:1≤l.length∧l.length≤65536) (hu:∀ z∈l,U32 z) (hf:∀ j,j<n→f j=byteAt l j):Lies w m b cap l:=by
 subst hn
 exact⟨h1,h.room,hu,h.two,h.here,fun j hj=>by rw[← hf j hj];exact h.byte j hj,h.free⟩
theorem Lies.keep {w w':World} {m b cap:Nat} {l:List Int} (h:Lies w m b cap l) (hm:w'.heap[m]?=w.heap[m]?) (hb:w'.heap[b]?=w.heap[b]?):Lies w' m b cap l:=
 ⟨h.len,h.room,h.u32,h.two,(World.cell?_of_block (a:=⟨m,0,none⟩) hm).trans h.here,fun j hj=>(World.cell?_of_block (a:=⟨b,j,none⟩) hb).trans (h.byte j hj),fun j=>(World.frozen?_of_block (a:=⟨b,j,none⟩) hb).trans (h.free j)⟩
theorem Lies.there {w:World} {m b cap:Nat} {l:List Int} (h:Lies w m b cap l):m<w.heap.size∧b<w.heap.size:=
 ⟨World.block_lt_of_cell? _ _ h.here,World.block_lt_of_cell? _ _ (h.byte 0 (by have:=h.len;omega))⟩
theorem byteAt_store (l:List Int) (p k:Nat) (x:Int) (hu:∀ z∈l,U32 z) (hx:U32 x) (hk:k=1∨k=2∨k=4) (hp:p%k=0) (hl:p<4*l.length) (j:Nat) :
  upd (byteAt l) p k x j=byteAt (l.set (p/4) (z3h (z0p l (p/4)) (p:Int) (k:Int) x)) j:=by
 have hq:p%4+k≤4:=by rcases hk with rfl | rfl | rfl <;> omega
 have hi:p/4<l.length:=by omega
 have ho:=wordAt_in hu (p/4)
 unfold upd byteAt
 by_cases hj:j/4=p/4
 ·have e:z0p (l.set (p/4) (z3h (z0p l (p/4)) (p:Int) (k:Int) x)) (j/4)=z3h (z0p l (p/4)) (p:Int) (k:Int) x:=by
   unfold z0p
   rw[hj,List.getD_eq_getElem?_getD,List.getElem?_set_self hi]
   rfl
  have hm:((p:Int)%4).toNat=p%4:=by omega
  rw[e,byte_store _ _ _ k (j%4) ho hx (by omega) (by rw[hm];exact hq) (by omega),hm,hj]
  by_cases hh:p≤j∧j<p+k
  ·rw[if_pos hh,if_pos (by omega),show j-p=j%4-p%4 by omega]
  ·rw[if_neg hh,if_neg (by omega)]
 ·have e:z0p (l.set (p/4) (z3h (z0p l (p/4)) (p:Int) (k:Int) x)) (j/4)=z0p l (j/4):=by
   generalize z3h (z0p l (p/4)) (p:Int) (k:Int) x=v
   unfold z0p
   rw[List.getD_eq_getElem?_getD,List.getD_eq_getElem?_getD,List.getElem?_set_ne (Ne.symm hj)]
  rw[e,if_neg (by omega)]
theorem mcheck {w:World} {m b cap:Nat} {l:List Int} (h:Lies w m b cap l) (p k:Int) (hp:U32 p) :
  Calls Tryz.prog 45 #[.pointer (some ⟨m,0,none⟩),.int .u32 p,.int .i64 k] w fun e w'=>e=.returned (.int .i64 (askV l.length p k))∧w'=w:=by
 have hh:=h.here
 have hn:=h.len.2
 clear h
 generalize l.length=n at *
 obtain⟨p0,p1⟩:=hp
 by_cases hs:k=1∨k=2∨k=4
 ·have hz:sizeV k=true:=(z7f k).2 hs
  have e:askV n p k=if p%k≠0 then 4 else if 4*(n:Int)≤p then 2 else 0:=by unfold askV;rw[if_neg (by rw[hz];decide)]
  rw[e]
  clear e hz
  have HT:p.tmod k=p%k:=by rw[Int.tmod_eq_emod_of_nonneg p0]
  by_cases hm:p%k=0
  ·have b1:p.tmod k=0:=by rw[HT];exact hm
   have b2:(p.tmod k != 0)=false:=by simp[b1]
   by_cases hl:4*(n:Int)≤p
   ·rw[if_neg (by omega),if_pos hl]
    rcases hs with rfl | rfl | rfl
    all_goals
     clear HT hm
     go_enter Tryz.func45,Tryz.ntmps45
     go_wp2
     go_ret
     exact⟨rfl,rfl⟩
   ·rw[if_neg (by omega),if_neg hl]
    rcases hs with rfl | rfl | rfl
    all_goals
     clear HT hm
     go_enter Tryz.func45,Tryz.ntmps45
     go_wp2
     go_ret
     exact⟨rfl,rfl⟩
  ·have b1:¬p.tmod k=0:=by rw[HT];exact hm
   have b2:(p.tmod k != 0)=true:=by simpa using b1
   rw[if_pos hm]
   have b3:(p%k != 0)=true:=by simpa using hm
   rcases hs with rfl | rfl | rfl
   ·omega
   all_goals
    clear HT hm
    go_enter Tryz.func45,Tryz.ntmps45
    go_wp2
    go_ret
    exact⟨rfl,rfl⟩
 ·have hz:sizeV k=false:=by cases hz:sizeV k with | true=>exact absurd ((z7f k).1 hz) hs | false=>rfl
  have e:askV n p k=1:=by unfold askV;rw[if_pos hz]
  rw[e]
  clear e hz
  have b1:(k != 1)=true:=by simp;omega
  have b2:(k != 2)=true:=by simp;omega
  have b4:(k != 4)=true:=by simp;omega
  clear hs
  go_enter Tryz.func45,Tryz.ntmps45
  go_wp2
  go_ret
  exact⟨rfl,rfl⟩
theorem msext (x n:Int) (hx:U32 x) (w:World) :
  Calls Tryz.prog 47 #[.int .u32 x,.int .i64 n] w fun e w'=>e=.returned (.int .u32 (z2g x n))∧w'=w:=by
 obtain⟨h0,h1⟩:=hx
 by_cases c1:n<1
 ·go_enter Tryz.func47,Tryz.ntmps47
  go_wp2
  go_ret
  exact⟨z6o (by unfold z2g;rw[if_pos (Or.inl c1)]),rfl⟩
 ·by_cases c2:32<n
  ·go_enter Tryz.func47,Tryz.ntmps47
   go_wp2
   go_ret
   exact⟨z6o (by unfold z2g;rw[if_pos (Or.inr c2)]),rfl⟩
  ·go_enter Tryz.func47,Tryz.ntmps47
   go_wp2
   go_ret
   exact⟨z6o (by unfold z2g;rw[if_neg (by omega)]),rfl⟩
theorem mload {w:World} {m b cap:Nat} {l:List Int} (h:Lies w m b cap l) (p k:Int) (s:Bool) (hp:U32 p) :
  Calls Tryz.prog 33 #[.pointer (some ⟨m,0,none⟩),.int .u32 p,.int .i64 k,.bool s] w fun e w'=>e=.returned (.tuple #[.int .u32 (z2r l.length l p k s),.int .i64 (askV l.length p k)])∧w'=w:=by
 have CC:Hid _:=mcheck h p k hp
 by_cases h0:askV l.length p k=0
 ·obtain⟨h1,h2,h3⟩:=z8a h0
  obtain⟨P,rfl⟩:=Int.eq_ofNat_of_zero_le hp.1
  obtain⟨k',rfl⟩:=Int.eq_ofNat_of_zero_le (show 0≤k by omega)
  have CG:Hid _:=mget h P k' (by omega) (by omega) (by omega)
  have e:z2r l.length l P k' s=if s then z2g (z0j (z0p l (P/4)) ((P%4:Nat)*8) (8*k')) (8*k') else z0j (z0p l (P/4)) ((P%4:Nat)*8) (8*k'):=by
   unfold z2r
   rw[if_pos h0]
   unfold z1l
   rw[show ((P:Int)/4).toNat=P/4 by omega,show (P:Int)%4=((P%4:Nat):Int) by omega]
  rw[e,h0]
  rw[h0] at CC
  clear e
  have CS:Hid _:=msext (z0j (z0p l (P/4)) ((P%4:Nat)*8) (8*k')) (8*k') (z4n _ _ _)
  generalize z2g (z0j (z0p l (P/4)) ((P%4:Nat)*8) (8*k')) (8*k')=y2 at *
  generalize z0j (z0p l (P/4)) ((P%4:Nat)*8) (8*k')=y1 at *
  have p1:=hp.2
  have k4:k'≤4:=by omega
  clear h h0 h2 h3 hp h1
  cases s with
  | false=>
   rw[if_neg (by decide)]
   go_enter Tryz.func33,Tryz.ntmps33
   go_wp2_with (first | (go_at_call 45;refine Calls.mono CC.out ?_;rintro e w' ⟨rfl,rfl⟩) | (go_at_call 46;refine Calls.mono CG.out ?_;rintro e w' ⟨rfl,rfl⟩))
   go_ret2
   exact⟨rfl,rfl⟩
  | true=>
   rw[if_pos rfl]
   go_enter Tryz.func33,Tryz.ntmps33
   go_wp2_with (first | (go_at_call 45;refine Calls.mono CC.out ?_;rintro e w' ⟨rfl,rfl⟩) | (go_at_call 46;refine Calls.mono CG.out ?_;rintro e w' ⟨rfl,rfl⟩) | (go_at_call 47;refine (CS.out _).mono ?_;rintro e w' ⟨rfl,rfl⟩))
   go_ret2
   exact⟨rfl,rfl⟩
 ·have e:z2r l.length l p k s=0:=by unfold z2r;rw[if_neg h0]
  rw[e]
  clear e h hp
  generalize askV l.length p k=E at *
  go_enter Tryz.func33,Tryz.ntmps33
  go_wp2_with fail
  refine Calls.mono CC.out ?_
  rintro e w' ⟨rfl,rfl⟩
  go_wp2
  go_ret2
  exact⟨rfl,rfl⟩
theorem mstore {w : World} {m b cap : Nat} {l : List Int} (h : Lies w m b cap l) (p k x : Int) (hp : U32 p) (hx : U32 x) :
    Calls Tryz.prog 76 #[.pointer (some ⟨m, 0, none⟩), .int .u32 p, .int .i64 k, .int .u32 x] w fun e w' => e = .returned (.int .i64 (askV l.length p k)) ∧ Lies w' m b cap (z5z l p k x) ∧ z6w (· = b) w w' := by
  have CC:Hid _:=mcheck h p k hp
  by_cases h0:askV l.length p k=0
  · obtain⟨h1,h2,h3⟩:=z8a h0
    have e:z5z l p k x=l.set (p/4).toNat (z3h (z0p l (p/4).toNat) p k x):=by unfold z5z;rw[if_pos h0]
    rw[e,h0]
    rw[h0] at CC
    clear e
    obtain⟨P,rfl⟩:=Int.eq_ofNat_of_zero_le hp.1
    obtain⟨k',rfl⟩:=Int.eq_ofNat_of_zero_le (show 0≤k by omega)
    rw[show ((P:Int)/4).toNat=P/4 by omega]
    have hk:k'=1∨k'=2∨k'=4:=by omega
    have hm:P%k'=0:=by exact_mod_cast h2
    have hl:P<4*l.length:=by omega
    have hq:P+k'≤4*l.length:=by rcases hk with rfl | rfl | rfl <;> omega
    have CP:Hid _:=mput h.raw P k' x hx (by omega) hq
    have HF:Hid _:=byteAt_store l P k' x h.u32 hx hk hm hl
    have HH:Hid _:=h
    have hv:U32 (z3h (z0p l (P/4)) P k' x):=z1t _ _ _
    generalize z3h (z0p l (P/4)) P k' x=v at *
    have p1:=hp.2
    clear h h0 h2 h3 hp h1 hm
    go_enter Tryz.func76,Tryz.ntmps76
    go_wp2_with fail
    refine Calls.mono CC.out ?_
    rintro e w' ⟨rfl,rfl⟩
    go_wp2_with fail
    refine Calls.mono CP.out ?_
    rintro e w1 ⟨rfl,hr,ha⟩
    go_wp2
    go_ret
    refine⟨rfl,hr.lies (by rw[List.length_set]) (by rw[List.length_set];exact HH.out.len) (fun z hz=>?_) (fun j _=>HF.out j),ha⟩
    rcases List.mem_or_eq_of_mem_set hz with h1 | h1
    · exact HH.out.u32 z h1
    · rw[h1];exact hv
  · have e:z5z l p k x=l:=by unfold z5z;rw[if_neg h0]
    rw[e]
    have HH:Hid _:=h
    clear e h hp
    generalize askV l.length p k=E at *
    go_enter Tryz.func76,Tryz.ntmps76
    go_wp2_with fail
    refine Calls.mono CC.out ?_
    rintro e w' ⟨rfl,rfl⟩
    go_wp2
    go_ret
    exact⟨rfl,HH.out,z6w.refl _ _⟩
theorem makeB (n:Nat) (h:n≤1000000) (w:World):(Instr.makeSlice 80 (.int .i64 (n:Int)) (.int .i64 (n:Int))).run Tryz.prog w=.ok (.slice (some ⟨w.heap.size,0,none⟩) n n) (w.alloc (.cells (madeCells #[.int .u8 0] n) 5)):=
 run_make_row' (P:=Tryz.prog) 80 5 (.int .u8 0) 1 Tryz.underlying80 (by kernel_rfl) rfl .i64 .i64 n (by omega) (by omega) w
def upto (l:List Int) (j t:Nat):Int:=if t<4*j then byteAt l t else 0
theorem upto_next (l:List Int) (j:Nat):upd (upto l j) (4*j) 4 (z0p l j)=upto l (j+1):=by
 funext t
 unfold upd upto byteAt
 by_cases h:4*j≤t∧t<4*j+4
 ·rw[if_pos h,if_pos (by omega),show t-4*j=t%4 by omega,show t/4=j by omega]
 ·rw[if_neg h]
  by_cases h2:t<4*j
  ·rw[if_pos h2,if_pos (by omega)]
  ·rw[if_neg h2,if_neg (by omega)]
theorem made_at (v:Value) (n i:Nat) (h:i<n):(madeCells #[v] n)[i]?=some v:=by
 rw[← Array.getElem?_toList,toList_madeCells_one]
 simp[h]
theorem memNew (b o n cap:Nat) (l:List Int) (w:World) (hl:n=l.length) (n0:1≤n) (n1:n≤65536) (hu:∀ x∈l,U32 x) (hc:∀ i,i<n→w.cell? ⟨b,o+i,none⟩=some (.int .u32 (z0p l i))) :
  Calls Tryz.prog 25 #[.slice (some ⟨b,o,none⟩) n cap] w fun e w'=>e=.returned (.tuple #[.pointer (some ⟨w.heap.size+1,0,none⟩),.int .i64 0])∧Lies w' (w.heap.size+1) w.heap.size (4*n) l∧Below w.heap.size w w':=by
 have HL:Hid (n=l.length):=hl
 have HC:Hid _:=hc
 have HU:Hid _:=hu
 have hb:b<w.heap.size:=World.block_lt_of_cell? _ _ (hc 0 (by omega))
 clear hl hc hu
 have hmk:=makeB (4*n) (by omega) w
 have em:((4*n:Nat):Int)=4*(n:Int):=by omega
 rw[em] at hmk
 have e0:((n:Int)==0)=false:=by simp;omega
 have e1:¬(65536:Int)<(n:Int):=by omega
 go_enter Tryz.func25,Tryz.ntmps25
 go_wp2_with fail
 have R0:Hid (Raw ((w.alloc (.cells (madeCells #[.int .u8 0] (4*n)) 5)).alloc (.cells #[.slice (some ⟨w.heap.size,0,none⟩) (4*n) (4*n)] 82)) (w.heap.size+1) w.heap.size (4*n) (4*n) (upto l 0)):=by
  have hA:=z0g (w.alloc (.cells (madeCells #[.int .u8 0] (4*n)) 5)) (.cells #[.slice (some ⟨w.heap.size,0,none⟩) (4*n) (4*n)] 82)
  rw[World.size_alloc] at hA
  have hB:((w.alloc (.cells (madeCells #[.int .u8 0] (4*n)) 5)).alloc (.cells #[.slice (some ⟨w.heap.size,0,none⟩) (4*n) (4*n)] 82)).heap[w.heap.size]?=some (.cells (madeCells #[.int .u8 0] (4*n)) 5):=z0m ((Below.refl _ _).alloc (Nat.le_refl _) _)
  exact⟨⟨Nat.le_refl _,by unfold maxLen;omega⟩,by omega,(z0a hA).1 0 _ rfl,fun j hj=>(z0a hB).1 j _ (made_at _ _ _ hj),(z0a hB).2.1⟩
 have B0:Below w.heap.size w ((w.alloc (.cells (madeCells #[.int .u8 0] (4*n)) 5)).alloc (.cells #[.slice (some ⟨w.heap.size,0,none⟩) (4*n) (4*n)] 82)):=box2
 generalize (w.alloc (.cells (madeCells #[.int .u8 0] (4*n)) 5)).alloc (.cells #[.slice (some ⟨w.heap.size,0,none⟩) (4*n) (4*n)] 82)=V at *
 clear hmk
 go_loopw [5,6,23] (fun _ _ i wr=>∃ j:Nat,j≤n∧i=.int .i64 j∧Hid (Raw wr (w.heap.size+1) w.heap.size (4*n) (4*n) (upto l j)∧Below w.heap.size w wr)) (fun _ _ i _=>n-(intOf i).toNat)
 case atStart=>exact⟨0,Nat.zero_le _,rfl,R0.out,B0⟩
 case round=>
  clear R0 B0
  obtain⟨j,hj,rfl,hr⟩:=hrel
  by_cases hlt:j<n
  ·have c:wr.cell? ⟨b,o+j,none⟩=some (.int .u32 (z0p l j)):=(hr.out.2.cell (p:=⟨b,o+j,none⟩) hb).trans (HC.out j hlt)
   have CP:Hid _:=mput hr.out.1 (4*j) 4 (z0p l j) (wordAt_in HU.out j) (Nat.le_refl _) (by omega)
   rw[upto_next] at CP
   have ej:((4*j:Nat):Int)=4*(j:Int):=by omega
   rw[ej] at CP
   have HB:Hid _:=hr.out.2
   clear hr
   generalize z0p l j=x at *
   go_wp2_with fail
   refine Calls.mono CP.out ?_
   rintro e w1 ⟨rfl,h1,h2⟩
   have h3:Below w.heap.size w w1:=h2.below HB.out (fun k hk=>by omega)
   clear h2 CP c HB
   go_wp2_with fail
   exact⟨⟨j+1,hlt,by go_num,h1,h3⟩,by simp[intOf];omega⟩
  ·have hjk:j=n:=by omega
   subst hjk
   go_wp2
   go_ret2
   exact⟨rfl,hr.out.1.lies (by rw[← HL.out]) (by rw[← HL.out];exact⟨n0,n1⟩) HU.out (fun t ht=>by unfold upto;rw[if_pos ht]),hr.out.2⟩
theorem mnone (a:Option Addr) (n cap:Nat) (w:World) (hn:n=0∨65536<n) (hm:n≤1000000000) :
  Calls Tryz.prog 25 #[.slice a n cap] w fun e w'=>e=.returned (.tuple #[.pointer none,.int .i64 1])∧w'=w:=by
 rcases hn with rfl | hn
 ·go_enter Tryz.func25,Tryz.ntmps25
  go_wp2
  go_ret2
  exact⟨rfl,rfl⟩
 ·have e0:((n:Int)==0)=false:=by simp;omega
  have e1:(65536:Int)<(n:Int):=by omega
  go_enter Tryz.func25,Tryz.ntmps25
  go_wp2
  go_ret2
  exact⟨rfl,rfl⟩
end Go.Proofs.YtilcoimelnpkeaaGreatDoor
