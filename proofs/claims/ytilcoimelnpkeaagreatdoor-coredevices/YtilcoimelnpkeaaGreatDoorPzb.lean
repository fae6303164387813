/-
  Contracts of functions that the statement reaches, and what they are made of, callees first.
-/
import Derived.BigFrame
import Derived.Deep.OwnRows
import Derived.Laws.CopyOwn
import Derived.Test.YtilcoimelnpkeaaGreatDoorPza
set_option maxRecDepth 100000
set_option maxHeartbeats 8000000
namespace Go.Proofs.YtilcoimelnpkeaaGreatDoor
open Go.RowKit
section
def rv (f:Nat→Int) (u:Bool) (i:Nat):Value:=if i=33 then .bool u else .int .u32 (f i)
def z0c (f:Nat→Int) (u:Bool):Array Value:=((List.range 57).map (rv f u)).toArray
theorem z0b (f:Nat→Int) (u:Bool):(z0c f u).size=57:=by simp[z0c]
theorem z2d (f:Nat→Int) (u:Bool) (i:Nat) (h:i<57):(z0c f u)[i]?=some (rv f u i):=by simp[z0c,h]
theorem z0s (f:Nat→Int) (u:Bool):(z0c f u).all (·.oneCell')=true:=by
 rw[Array.all_eq_true]
 intro i hi
 have h1:i<57:=by rwa [z0b] at hi
 have h2:=z2d f u i h1
 rw[Array.getElem?_eq_getElem hi,Option.some.injEq] at h2
 rw[h2]
 unfold rv
 split <;> rfl
def set1 (f:Nat→Int) (i:Nat) (x:Int) (j:Nat):Int:=if j=i then x else f j
theorem z5k {f g:Nat→Int} {u:Bool} (h:∀ i,i<57→i≠33→f i=g i):z0c f u=z0c g u:=by
 unfold z0c
 congr 1
 apply List.map_congr_left
 intro i hi
 unfold rv
 by_cases h3:i=33
 ·rw[if_pos h3,if_pos h3]
 ·rw[if_neg h3,if_neg h3,h i (by simpa using hi) h3]
theorem regs57_put (f:Nat→Int) (u:Bool) (i:Nat) (x:Int) (hi:i≠33):(z0c f u).setIfInBounds i (.int .u32 x)=z0c (set1 f i x) u:=by
 apply Array.ext_getElem?
 intro j
 rw[Array.getElem?_setIfInBounds]
 by_cases hj:j<57
 ·by_cases hij:i=j
  ·subst hij
   rw[if_pos rfl,z0b,if_pos hj,z2d _ _ i hj]
   simp[rv,set1,hi]
  ·rw[if_neg hij,z2d _ _ j hj,z2d _ _ j hj]
   simp[rv,set1,Ne.symm hij]
 ·have h1:(z0c f u)[j]?=none:=by rw[Array.getElem?_eq_none_iff,z0b];omega
  have h2:(z0c (set1 f i x) u)[j]?=none:=by rw[Array.getElem?_eq_none_iff,z0b];omega
  rw[h1,h2]
  by_cases hij:i=j
  ·subst hij
   rw[if_pos rfl,z0b,if_neg hj]
  ·rw[if_neg hij]
theorem regs57_user (f:Nat→Int) (u v:Bool):(z0c f u).setIfInBounds 33 (.bool v)=z0c f v:=by
 apply Array.ext_getElem?
 intro j
 rw[Array.getElem?_setIfInBounds]
 by_cases hj:j<57
 ·by_cases hij:33=j
  ·subst hij
   rw[if_pos rfl,z0b,if_pos hj,z2d _ _ 33 hj]
   rfl
  ·rw[if_neg hij,z2d _ _ j hj,z2d _ _ j hj]
   simp[rv,Ne.symm hij]
 ·have h1:(z0c f u)[j]?=none:=by rw[Array.getElem?_eq_none_iff,z0b];omega
  have h2:(z0c f v)[j]?=none:=by rw[Array.getElem?_eq_none_iff,z0b];omega
  rw[h1,h2,if_neg (by omega)]
theorem z8d:(#[.int .u32 0,.int .u32 0,.int .u32 0,.int .u32 0,.int .u32 0,.int .u32 0,.int .u32 0,.int .u32 0,.int .u32 0,.int .u32 0,.int .u32 0,.int .u32 0,.int .u32 0,.int .u32 0,.int .u32 0,.int .u32 0,.int .u32 0,.int .u32 0,.int .u32 0,.int .u32 0,.int .u32 0,.int .u32 0,.int .u32 0,.int .u32 0,.int .u32 0,.int .u32 0,.int .u32 0,.int .u32 0,.int .u32 0,.int .u32 0,.int .u32 0,.int .u32 0,.int .u32 0,.bool false,.int .u32 0,.int .u32 0,.int .u32 0,.int .u32 0,.int .u32 0,.int .u32 0,.int .u32 0,.int .u32 0,.int .u32 0,.int .u32 0,.int .u32 0,.int .u32 0,.int .u32 0,.int .u32 0,.int .u32 0,.int .u32 0,.int .u32 0,.int .u32 0,.int .u32 0,.int .u32 0,.int .u32 0,.int .u32 0,.int .u32 0]:Array Value)=z0c (fun _=>0) false:=rfl
theorem z0o:(Tryz.prog.info? 37).map (·.size)=some 57:=by kernel_rfl
theorem z3f:∃ fs,Tryz.prog.underlying 37=some (.struct fs):=⟨_,Tryz.underlying37⟩
theorem z3r (f:Nat→Int) (u:Bool) (w:World):(Instr.box 37 (.agg (z0c f u))).run Tryz.prog w=.ok (.pointer (some ⟨w.heap.size,0,none⟩)) (w.alloc (.cells (z0c f u) 37)):=by kernel_rfl
section
variable {ops:Array Oper} {rest:List Oper} {o:Oper} {a:Act} {w:World} {Q:Exit→Act→World→Prop}
theorem z0k (hgd:o.guard=none) {x:Operand} (ho:o.op=.load 31 x) {b i:Nat} (hx:a.eval x=.pointer (some ⟨b,i,none⟩)) {f:Nat→Int} {u:Bool} {t:TypeId} (hw:w.heap[b]?=some (.cells (z0c f u) t)) (hi:i<57) (h3:i≠33)
  (h:wpList Tryz.prog ops Q rest (a.put o.dst (.int .u32 (f i))) w):wpList Tryz.prog ops Q (o::rest) a w:=
 z8k hgd ho hx hw (by rw[z2d f u i hi];unfold rv;rw[if_neg h3]) h
theorem z1h (hgd:o.guard=none) {x:Operand} (ho:o.op=.load 4 x) {b:Nat} (hx:a.eval x=.pointer (some ⟨b,33,none⟩)) {f:Nat→Int} {u:Bool} {t:TypeId} (hw:w.heap[b]?=some (.cells (z0c f u) t))
  (h:wpList Tryz.prog ops Q rest (a.put o.dst (.bool u)) w):wpList Tryz.prog ops Q (o::rest) a w:=
 wpList_load_bool hgd ho hx hw rfl h
theorem z0h (hgd:o.guard=none) {x y:Operand} (ho:o.op=.store 31 x y) {b i:Nat} (hx:a.eval x=.pointer (some ⟨b,i,none⟩)) {n:Int} (hy:a.eval y=.int .u32 n) {f:Nat→Int} {u:Bool} {t:TypeId} (hw:w.heap[b]?=some (.cells (z0c f u) t)) (hi:i<57) (h3:i≠33)
  (h:∀ w',w'.heap[b]?=some (.cells (z0c (set1 f i n) u) t)→(∀ k,k≠b→w'.heap[k]?=w.heap[k]?)→(∀ (B:Nat) (w0:World),B≤b→Below B w0 w→Below B w0 w')→wpList Tryz.prog ops Q rest (a.put o.dst undef) w'):wpList Tryz.prog ops Q (o::rest) a w:=
 wpList_store_u32 hgd ho hx hy hw (z2d f u i hi) fun w' hW=>h w' (by rw[← regs57_put f u i n h3];exact hW.block) hW.other hW.below
theorem z0z (hgd:o.guard=none) {x y:Operand} (ho:o.op=.store 4 x y) {b:Nat} (hx:a.eval x=.pointer (some ⟨b,33,none⟩)) {n:Bool} (hy:a.eval y=.bool n) {f:Nat→Int} {u:Bool} {t:TypeId} (hw:w.heap[b]?=some (.cells (z0c f u) t))
  (h:∀ w',w'.heap[b]?=some (.cells (z0c f n) t)→(∀ k,k≠b→w'.heap[k]?=w.heap[k]?)→(∀ (B:Nat) (w0:World),B≤b→Below B w0 w→Below B w0 w')→wpList Tryz.prog ops Q rest (a.put o.dst undef) w'):wpList Tryz.prog ops Q (o::rest) a w:=
 wpList_store_bool hgd ho hx hy hw (z2d f u 33 (by decide)) fun w' hW=>h w' (by rw[← regs57_user f u n];exact hW.block) hW.other hW.below
end
def z9m (s:Int) (u:Bool):Int:=
 if u then (if z0j s 3 1=1 then bits .or .u32 (bits .andNot .u32 s 6280) 128 else bits .andNot .u32 s 6280)
 else bits .or .u32 (if z0j s 3 1=1 then bits .or .u32 (bits .andNot .u32 s 6280) 128 else bits .andNot .u32 s 6280) 6144
def z5i (f:Nat→Int) (u:Bool) (c v:Int) (i:Nat):Int:=
 if i=32 then f 36 else if i=34 then z9m (f 34) u else if i=38 then f 32 else if i=39 then c else if i=40 then v else f i
def retS (s:Int):Int:=if z0j s 7 1=1 then bits .or .u32 (bits .or .u32 (bits .andNot .u32 s 6152) 128) 8 else bits .or .u32 (bits .andNot .u32 s 6152) 128
def retF (f:Nat→Int) (i:Nat):Int:=if i=32 then f 38 else if i=34 then retS (f 34) else f i
def retU (f:Nat→Int):Bool:=z0j (f 34) 11 1==0
theorem ret57 {f g:Nat→Int} {u v:Bool} (h:∀ i,i<57→i≠33→f i=g i) (hu:u=v):Ending.returned (.agg (z0c f u))=.returned (.agg (z0c g v)):=by rw[z5k h,hu]
end
def z2f (n:Int):Option Nat:=
 if n=768 then some 34
 else if n=772 then some 35
 else if n=773 then some 36
 else if n=832 then some 37
 else if n=833 then some 38
 else if n=834 then some 39
 else if n=835 then some 40
 else if 1984≤n∧n<2000 then some (41+(n-1984).toNat)
 else none
def z4e (f:Nat→Int) (n now:Int) (due:Bool):Int:=
 if n=836 then (if due then 128 else 0) else if n=3072 then now%4294967296 else match z2f n with
  | some i=>f i
  | none=>0
def z2b (n:Int):Int:=if n=836∨n=3072∨(z2f n).isSome then 0 else 2
def statV (x:Int):Int:=if z0j x 11 2=3 then bits .or .u32 (bits .and .u32 x 136) 6144 else bits .and .u32 x 136
def z7t (n x:Int):Int:=if n=768 then statV x else if n=772 then bits .and .u32 x 128 else if n=773∨n=833 then x/4*4 else x
def z2o (f:Nat→Int) (n x:Int):Nat→Int:=match z2f n with
 | some i=>set1 f i (z7t n x)
 | none=>f
def z2y (n:Int):Int:=if n=836∨n=3072 then 7 else if (z2f n).isSome then 0 else 2
section
def r16 (g:Nat→Int):Array Value:=((List.range 16).map fun i=>Value.int .u32 (g i)).toArray
theorem r16_at (g:Nat→Int) (i:Nat) (h:i<16):(r16 g)[i]?=some (.int .u32 (g i)):=by simp[r16,h]
def wat (l:List Int) (n j:Nat):Int:=if j<n then l.getD j 0 else 0
theorem wat_u {l:List Int} (hl:∀ z∈l,U32 z) (n i:Nat):U32 (wat l n i):=by
 unfold wat
 split
 ·rw[List.getD_eq_getElem?_getD]
  cases hi:l[i]? with
  | none=>simp[U32]
  | some z=>simpa using hl z (List.mem_of_getElem? hi)
 ·simp[U32]
section
variable {ops:Array Oper} {rest:List Oper} {o:Oper} {a:Act} {w:World} {Q:Exit→Act→World→Prop}
theorem z9h (hgd:o.guard=none) {x:Operand} (ho:o.op=.load 31 x) {b i:Nat} (hx:a.eval x=.pointer (some ⟨b,i,none⟩)) {g:Nat→Int} {t:TypeId} (hw:w.heap[b]?=some (.cells (r16 g) t)) (hi:i<16)
  (h:wpList Tryz.prog ops Q rest (a.put o.dst (.int .u32 (g i))) w):wpList Tryz.prog ops Q (o::rest) a w:=
 z8k hgd ho hx hw (r16_at g i hi) h
theorem builtU (u:Bool):Tryz.prog.built 37 [(2,.bool u)]=some (z0c (fun _=>0) u):=by kernel_rfl
theorem wpList_builtU (hg:o.guard=none) (x:Operand) (ho:o.op=.build 37 #[(2,x)]) (u:Bool) (hx:a.eval x=.bool u)
  (h:wpList Tryz.prog ops Q rest (a.put o.dst (.agg (z0c (fun _=>0) u))) w):wpList Tryz.prog ops Q (o::rest) a w:=by
 have e:(#[(2,x)].map fun (i,x)=>(i,a.eval x)).toList=[(2,Value.bool u)]:=by simp[hx]
 refine wpList_build hg _ _ ho ?_ ?_
 ·rw[e,builtU];rfl
 ·rw[e,builtU];exact h
end
theorem splice16 (l:List Int) (n m:Nat) (hm:m=min n 16):(splice (List.replicate 16 (Value.int .u32 0)) 0 ((List.range m).map fun i=>Value.int .u32 (l.getD i 0))).toArray=r16 (wat l n):=by
 unfold r16
 congr 1
 apply List.ext_getElem?
 intro i
 unfold splice
 simp only[List.take_zero,List.nil_append,List.length_map,List.length_range,Nat.zero_add]
 by_cases h1:i<m
 ·rw[List.getElem?_append_left (by simpa using h1)]
  have h2:i<16:=by omega
  have h3:i<n:=by omega
  simp[h1,h2,wat,h3]
 ·rw[List.getElem?_append_right (by simpa using h1)]
  simp only[List.length_map,List.length_range,List.drop_replicate]
  by_cases h2:i<16
  ·have h3:¬i<n:=by omega
   have h4:i-m<16-m:=by omega
   simp[h2,wat,h3,h4]
  ·have h4:¬i-m<16-m:=by omega
   simp[h2,h4]
def regsP (g:Nat→Int) (k i:Nat):Int:=
 if i<8 then (if i<k then g (15-i) else 0) else if i=32 then g 0 else if i=34 then bits .and .u32 (g 1) 6280 else if 35≤i∧i≤40 then g (i-33)
 else if 41≤i∧i<49 then (if i<41+k then g (8+(i-41)) else 0) else 0
def regsF (l:List Int) (n:Nat):Nat→Int:=regsP (wat l n) 8
theorem regsP_u {g:Nat→Int} (hg:∀ i,U32 (g i)) (k i:Nat):U32 (regsP g k i):=by
 unfold regsP
 repeat' split
 all_goals first | exact hg _ | exact z1t _ _ _ | simp[U32]
theorem regsP_next (g:Nat→Int) (k:Nat) (hk:k<8) (i:Nat):set1 (set1 (regsP g k) (41+k) (g (8+k))) k (g (15-k)) i=regsP g (k+1) i:=by
 unfold set1 regsP
 by_cases h1:i=k
 ·subst h1
  rw[if_pos rfl,if_pos hk,if_pos (by omega)]
 ·rw[if_neg h1]
  by_cases h2:i=41+k
  ·subst h2
   rw[if_pos rfl,if_neg (by omega),if_neg (by omega),if_neg (by omega),if_neg (by omega),if_pos (by omega),if_pos (by omega),show 8+(41+k-41)=8+k by omega]
  ·rw[if_neg h2]
   by_cases h3:i<8
   ·rw[if_pos h3,if_pos h3]
    by_cases h4:i<k
    ·rw[if_pos h4,if_pos (by omega)]
    ·rw[if_neg h4,if_neg (by omega)]
   ·rw[if_neg h3,if_neg h3]
    by_cases h4:41≤i∧i<49
    ·have e1:¬i=32:=by omega
     have e2:¬i=34:=by omega
     have e3:¬(35≤i∧i≤40):=by omega
     rw[if_neg e1,if_neg e1,if_neg e2,if_neg e2,if_neg e3,if_neg e3,if_pos h4,if_pos h4]
     by_cases h5:i<41+k
     ·rw[if_pos h5,if_pos (by omega)]
     ·rw[if_neg h5,if_neg (by omega)]
    ·rw[if_neg h4,if_neg h4]
theorem regsP_zero (g:Nat→Int) (i:Nat):set1 (set1 (set1 (set1 (set1 (set1 (set1 (set1 (fun _=>0) 32 (g 0)) 34 (bits .and .u32 (g 1) 6280)) 35 (g 2)) 36 (g 3)) 37 (g 4)) 38 (g 5)) 39 (g 6)) 40 (g 7) i=regsP g 0 i:=by
 by_cases h:32≤i∧i≤40
 ·have:i=32∨i=33∨i=34∨i=35∨i=36∨i=37∨i=38∨i=39∨i=40:=by omega
  rcases this with rfl | rfl | rfl | rfl | rfl | rfl | rfl | rfl | rfl <;> simp[set1,regsP]
 ·have e1:¬i=32:=by omega
  have e2:¬i=34:=by omega
  have e3:¬(35≤i∧i≤40):=by omega
  have e4:¬i=35:=by omega
  have e5:¬i=36:=by omega
  have e6:¬i=37:=by omega
  have e7:¬i=38:=by omega
  have e8:¬i=39:=by omega
  have e9:¬i=40:=by omega
  unfold set1 regsP
  rw[if_neg e9,if_neg e8,if_neg e7,if_neg e6,if_neg e5,if_neg e4,if_neg e2,if_neg e1,if_neg e1,if_neg e2,if_neg e3]
  split
  ·rw[if_neg (Nat.not_lt_zero _)]
  ·split
   ·rw[if_neg (by omega)]
   ·rfl
structure RegSt (w:World) (g:Nat→Int) (u:Bool) (k:Nat) (wr:World):Prop where
 res:wr.heap[w.heap.size]?=some (.cells (z0c (fun _=>0) false) 37)
 r:wr.heap[w.heap.size+1]?=some (.cells (z0c (regsP g k) u) 37)
 at':wr.heap[w.heap.size+1+1]?=some (.cells (r16 g) 31)
 below:Below w.heap.size w wr
theorem lregs (sa:Option Addr) (b off n cap:Nat) (l:List Int) (u:Bool) (w:World) (hm:n≤maxLen) (hsa:0<n→sa=some ⟨b,off,none⟩∧b<w.heap.size) (hc:∀ i,i<n→w.cell? ⟨b,off+i,none⟩=some (.int .u32 (l.getD i 0))) :
  Calls Tryz.prog 14 #[.slice sa n cap,.bool u] w fun e w'=>e=.returned (.agg (z0c (regsF l n) u))∧Below w.heap.size w w':=by
 unfold maxLen at hm
 have HC:Hid _:=hc
 have HA:Hid _:=hsa
 clear hc hsa
 obtain⟨fs,hfs⟩:=z3f
 have HS:Hid _:=hfs
 clear hfs
 have hmk:∀ w,(Instr.makeSlice 22 (.int .i64 16) (.int .i64 16)).run Tryz.prog w=.ok (.slice (some ⟨w.heap.size,0,none⟩) 16 16) (w.alloc (.cells (List.replicate 16 (.int .u32 0)).toArray 31)):=fun w=>by kernel_rfl
 have X1:Hid (∀ A C R D,((((w.alloc A).alloc C).setRow (w.heap.size+1) R).alloc D).heap[w.heap.size+1+1]?=some D):=fun A C R D=>by
  have:=z0g (((w.alloc A).alloc C).setRow (w.heap.size+1) R) D
  rwa [setRow_size,World.size_alloc,World.size_alloc] at this
 have XB:Hid (∀ A C R D,Below w.heap.size w ((((w.alloc A).alloc C).setRow (w.heap.size+1) R).alloc D)):=fun A C R D=>(below_setRow box2 (Nat.le_succ _) R).alloc (by simp;omega) _
 have X2:Hid (∀ A (C:Array Value) R D,((((w.alloc A).alloc (.cells C 37)).setRow (w.heap.size+1) R).alloc D).heap[w.heap.size+1]?=some (.cells R 37)):=fun A C R D=>by
  have h1:=z0g (w.alloc A) (.cells C 37)
  rw[World.size_alloc] at h1
  exact z0f (setRow_heap _ _ _ R _ _ h1) ((Below.refl _ _).alloc (Nat.le_refl _) _)
 have X3:Hid (∀ A C R D,((((w.alloc A).alloc C).setRow (w.heap.size+1) R).alloc D).heap[w.heap.size]?=some A):=fun A C R D=>by
  have h1:((w.alloc A).alloc C).heap[w.heap.size]?=some A:=z0m ((Below.refl _ _).alloc (Nat.le_refl _) _)
  have h2:(((w.alloc A).alloc C).setRow (w.heap.size+1) R).heap[w.heap.size]?=some A:=by rw[setRow_other _ _ _ _ (by omega)];exact h1
  exact z0f h2 ((Below.refl _ _).alloc (Nat.le_refl _) _)
 have XC:Hid (∀ W:World,Below w.heap.size w W→0<((List.range (min n 16)).map fun i=>Value.int .u32 (l.getD i 0)).length→∃ ad,sa=some ad∧∀ j v,((List.range (min n 16)).map fun i=>Value.int .u32 (l.getD i 0))[j]?=some v→W.cell? (ad.add j)=some v):=fun W hW hp=>by
  rw[List.length_map,List.length_range] at hp
  obtain⟨h1,h2⟩:=HA.out (by omega)
  refine⟨_,h1,fun j v hv=>?_⟩
  have hj:j<min n 16:=by
   have:=(List.getElem?_eq_some_iff.1 hv).1
   simpa using this
  have hv2:v=.int .u32 (l.getD j 0):=by
   rw[List.getElem?_map,List.getElem?_range hj] at hv
   simpa using hv.symm
  rw[Addr.add_mid,hW.cell (p:=⟨b,off+j,none⟩) h2,hv2]
  exact HC.out j (by omega)
 have L1:Hid (((List.range (min n 16)).map fun i=>Value.int .u32 (l.getD i 0)).length=Nat.min n 16):=by show _=_;rw[List.length_map,List.length_range]
 have L2:Hid (0+((List.range (min n 16)).map fun i=>Value.int .u32 (l.getD i 0)).length≤(List.replicate 16 (Value.int .u32 0)).length):=by show _≤_;rw[List.length_map,List.length_range,List.length_replicate];omega
 have L3:Hid (∀ v∈(List.range (min n 16)).map fun i=>Value.int .u32 (l.getD i 0),v.oneCell'=true):=fun v hv=>by
  obtain⟨_,_,rfl⟩:=List.mem_map.1 hv
  rfl
 have SP:Hid _:=splice16 l n (min n 16) rfl
 generalize ((List.range (min n 16)).map fun i=>Value.int .u32 (l.getD i 0))=CS at *
 go_enter Tryz.func14,Tryz.ntmps14
 go_wp2_with (first | (refine wpList_builtU rfl (.tmp 8) rfl _ rfl ?_) | (refine wpList_store_row rfl 37 (.tmp 5) (.tmp 9) rfl _ (z0c _ _) rfl rfl _ (z0c (fun _=>0) false) (by have:=z0g (w.alloc (.cells (z0c (fun _=>0) false) 37)) (.cells (z0c (fun _=>0) false) 37);rw[World.size_alloc] at this;exact this) (by rw[z0b];exact z0o) (by rw[z0b,z0b]) (z0s _ _) ?_) | (refine wpList_copy_splice rfl (.tmp 11) (.tmp 12) 22 22 rfl 31 Tryz.underlying22 (by kernel_rfl) _ _ _ _ _ _ rfl rfl (w.heap.size+1+1) 0 (List.replicate 16 (.int .u32 0)) 31 (X1.out _ _ _ _) CS L1.out (fun hp=>⟨rfl,XC.out _ (XB.out _ _ _ _) hp⟩) L2.out L3.out (w.heap.size+1+1) _ (Below.refl _ _) (Nat.le_refl _) ?_;intro wc HW HBW;have HAw:=HW.out;rw[SP.out] at HAw;have HBw:=Eq.trans (HBW.block (w.heap.size+1) (by omega)) (X2.out _ _ _ _);have HZw:=Eq.trans (HBW.block w.heap.size (by omega)) (X3.out _ _ _ _);have HLw:Below w.heap.size w wc:=Below.trans (XB.out _ _ _ _) (HBW.mono (by omega));clear HW HBW) | (refine z9h rfl rfl rfl (by assumption) (by decide) ?_) | (refine z0h rfl rfl rfl rfl (by assumption) (by decide) (by decide) ?_;intro wn HBn HO HL;have HZn:=Eq.trans (HO w.heap.size (by omega)) (by assumption);have HAn:=Eq.trans (HO (w.heap.size+1+1) (by omega)) (by assumption);have HLn:=HL w.heap.size w (by omega) (by assumption);clear HO HL))
 rw[z5k (fun i _ _=>regsP_zero (wat l n) i)] at HBn
 have R0:Hid (RegSt w (wat l n) u 0 wn):=⟨HZn,HBn,HAn,HLn⟩
 clear HZn HBn HAn HLn
 go_loopw [7] (fun i wr=>∃ k:Nat,k≤8∧i=.int .i64 k∧Hid (RegSt w (wat l n) u k wr)) (fun i _=>8-(intOf i).toNat)
 case atStart=>exact⟨0,Nat.zero_le _,rfl,R0.out⟩
 case round=>
  clear R0 X1 X2 X3 XB XC L1 L2 L3 SP HC HA
  obtain⟨k,hk,rfl,hr⟩:=hrel
  have HBn:=hr.out.r
  have HZn:=hr.out.res
  have HAn:=hr.out.at'
  have HLn:=hr.out.below
  clear hr
  by_cases hlt:k<8
  ·have i1:(0:Int)≤8+(k:Int):=by omega
   have i2:8+(k:Int)<16:=by omega
   have i3:(0:Int)≤15-(k:Int):=by omega
   have i4:15-(k:Int)<16:=by omega
   have i5:(0:Int)≤(k:Int):=by omega
   have i6:(k:Int)<16:=by omega
   have i7:(k:Int)<32:=by omega
   have n1:(8+(k:Int)).toNat=8+k:=by omega
   have n2:(15-(k:Int)).toNat=15-k:=by omega
   go_wp2_with (first | (refine z9h rfl rfl rfl (by assumption) (by omega) ?_) | (refine z0h rfl rfl rfl rfl (by assumption) (by omega) (by omega) ?_;intro wn HBn HO HL;have HZn:=Eq.trans (HO w.heap.size (by omega)) (by assumption);have HAn:=Eq.trans (HO (w.heap.size+1+1) (by omega)) (by assumption);have HLn:=HL w.heap.size w (by omega) (by assumption);clear HO HL))
   have HF:Hid (RegSt w (wat l n) u (k+1) wn):=⟨HZn,by rw[HBn,z5k (fun i _ _=>regsP_next (wat l n) k hlt i)],HAn,HLn⟩
   exact⟨⟨k+1,hlt,by go_num,HF.out⟩,by simp[intOf];omega⟩
  ·have hk8:k=8:=by omega
   subst hk8
   go_wp2_with (first | (refine wpList_load_row rfl 37 (.tmp 5) rfl _ rfl _ _ _ _ HBn HS.out rfl (by rw[z0b];exact z0o) ?_) | (refine wpList_store_row rfl 37 (.tmp 4) (.tmp 67) rfl _ (z0c _ _) rfl rfl _ _ HZn (by rw[z0b];exact z0o) (by rw[z0b];rfl) (z0s _ _) ?_))
   exact bodyPost_ret (results_cell_row rfl _ _ _ _ _ _ _ rfl (setRow_heap _ _ _ _ _ _ HZn) HS.out rfl (by rw[z0b];exact z0o)) rfl ⟨rfl,below_setRow HLn (Nat.le_refl _) _⟩
end
section
section
variable {P:Program} {ops:Array Oper} {rest:List Oper} {o:Oper} {a:Act} {w:World} {Q:Exit→Act→World→Prop}
theorem wpList_built_is (hw:Region.wanted o (yielded ops a.tmps)=true) (t:TypeId) (parts:Array (Nat × Operand)) (ho:o.op=.build t parts) (vs:List (Nat × Value)) (hv:(parts.map fun (i,x)=>(i,a.eval x)).toList=vs) (cs:Array Value) (hb:P.built t vs=some cs)
  (h:wpList P ops Q rest (a.put o.dst (.agg cs)) w):wpList P ops Q (o::rest) a w:=by
 refine BigFrame.wpList_want hw fun K hK=>wp_build t parts ho ?_ ?_
 ·rw[hv,hb];rfl
 ·rw[hv,hb];exact hK _ _ h
end
theorem built0:Tryz.prog.built 37 []=some (z0c (fun _=>0) false):=by kernel_rfl
end
end Go.Proofs.YtilcoimelnpkeaaGreatDoor
