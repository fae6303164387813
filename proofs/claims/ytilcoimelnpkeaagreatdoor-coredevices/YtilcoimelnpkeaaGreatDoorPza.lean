/-
  Contracts of functions that the statement reaches, and what they are made of, callees first.
-/
import Derived.Below
import Derived.BigFrame
import Derived.Deep.MidRow
import Derived.Deep.Quiet
import Derived.Deep.RegionHeld3
import Derived.Deep.WholeRow
import Derived.Laws.BitsAllLaws
import Derived.Laws.IdiomCopy
import Derived.Laws.Rows
import Derived.Laws.Strings
import Derived.Laws.Tables
import Derived.Maps.OwnOps
import Derived.Maps.OwnSet
import Derived.OpenShut
import Derived.Outline
import Derived.RowKit
import Derived.RowKit3
import Derived.Sort.Grow
import Derived.StillTail
import Derived.Test.YtilcoimelnpkeaaGreatDoorChecked
import Derived.Test.YtilcoimelnpkeaaGreatDoorProg
import Derived.WalkKit
import Derived.WalkLawsBesides
import Derived.WalkSpells
set_option maxRecDepth 100000
set_option maxHeartbeats 8000000
namespace Go.Proofs.YtilcoimelnpkeaaGreatDoor
open Go.RowKit
theorem bytes_ext {s t:ByteArray} (h:s.toList=t.toList):s=t:=by
 rw[ByteArray.toList_eq,ByteArray.toList_eq] at h
 obtain⟨⟨l⟩⟩:=s
 obtain⟨⟨m⟩⟩:=t
 simp only at h
 rw[h]
theorem cell_new (w:World) (xs:List Value) (t:TypeId) (k:Nat) (v:Value) (h:xs[k]?=some v):(w.alloc (.cells xs.toArray t)).cell? ⟨w.heap.size,k,none⟩=some v:=by
 rw[World.cell?_alloc_new]
 simpa using h
theorem z0m {w w1:World} {ob:Obj} (hb:Below (w.alloc ob).heap.size (w.alloc ob) w1):w1.heap[w.heap.size]?=some ob:=by
 rw[hb.block _ (by simp)]
 show (w.heap.push ob)[w.heap.size]?=_
 simp
theorem z0f {w w1:World} {b:Nat} {ob:Obj} (h:w.heap[b]?=some ob) (hb:Below w.heap.size w w1):w1.heap[b]?=some ob:=by
 rw[hb.block _ (Array.getElem?_eq_some_iff.1 h).1];exact h
theorem z0a {w:World} {b:Nat} {cs:Array Value} {t:TypeId} (h:w.heap[b]?=some (.cells cs t)) :
  (∀ (i:Nat) (v:Value),cs[i]?=some v→w.cell? ⟨b,i,none⟩=some v)∧(∀ i,w.frozen? ⟨b,i,none⟩=false)∧b<w.heap.size:=by
 refine⟨fun i v hv=>?_,fun i=>?_,(Array.getElem?_eq_some_iff.1 h).1⟩
 ·simp only[World.cell?,h];simpa using hv
 ·simp[World.frozen?,h]
theorem z0g (w:World) (ob:Obj):(w.alloc ob).heap[w.heap.size]?=some ob:=by
 show (w.heap.push ob)[w.heap.size]?=_
 simp
theorem World.size_alloc (w:World) (ob:Obj):(w.alloc ob).heap.size=w.heap.size+1:=by simp
theorem z1p {w:World} {b i:Nat} {cs:Array Value} {t:TypeId} (v:Value) (h:w.heap[b]?=some (.cells cs t)):(w.setCell ⟨b,i,none⟩ v).heap[b]?=some (.cells (cs.setIfInBounds i v) t):=by
 simp[World.setCell,Array.getElem?_modify,h]
theorem z1u {w w1:World} {ob:Obj} (hb:Below (w.alloc ob).heap.size (w.alloc ob) w1):Below w.heap.size w w1:=
 ((Below.refl _ _).alloc (Nat.le_refl _) _).trans (hb.mono (by simp))
theorem z0e {w V W:World} (h:Below w.heap.size w V) (h2:Below V.heap.size V W):Below w.heap.size w W:=h.trans (h2.mono h.size)
theorem z4b {B:Nat} {w w1 w2:World} {b:Nat} (h:Below B w w1) (hg:w1.grownBy w2 (some b)) (hB:B≤w1.heap.size) (hb:B≤b):Below B w w2:=
 h.grown hg hB (fun k e=>by cases e;exact hb)
theorem z9j {B b:Nat} {w0:World} (hb:B≤b):∀ (vs:List Value) (o:Nat) (w:World),Below B w0 w→Below B w0 (w.setCells b o vs)
 | [],_,_,h=>h
 | _::vs,o,_,h=>z9j hb vs (o+1) _ (h.setCell hb _)
theorem box2 {w:World} {x y:Obj}:Below w.heap.size w ((w.alloc x).alloc y):=((Below.refl _ _).alloc (Nat.le_refl _) _).alloc (by simp) _
theorem z6z {V w:World} {B:Nat} {u0 u1 u2 u3 u4 v0 v1 v2 v3 v4:Value} (h0:V.cell? ⟨B,0,none⟩=some u0) (h1:V.cell? ⟨B,1,none⟩=some u1) (h2:V.cell? ⟨B,2,none⟩=some u2) (h3:V.cell? ⟨B,3,none⟩=some u3) (h4:V.cell? ⟨B,4,none⟩=some u4) (hb:Below B w V) :
  ∃ Y,Y=((((V.setCell ⟨B,0,none⟩ v0).setCell ⟨B,1,none⟩ v1).setCell ⟨B,2,none⟩ v2).setCell ⟨B,3,none⟩ v3).setCell ⟨B,4,none⟩ v4∧Y.cell? ⟨B,0,none⟩=some v0∧Y.cell? ⟨B,1,none⟩=some v1∧Y.cell? ⟨B,2,none⟩=some v2∧Y.cell? ⟨B,3,none⟩=some v3∧Y.cell? ⟨B,4,none⟩=some v4∧B<Y.heap.size∧Y.heap.size=V.heap.size∧Below B w Y:=by
 have hB:B<V.heap.size:=World.block_lt_of_cell? _ _ h0
 refine⟨_,rfl,?_⟩
 have hbb:Below B w (((((V.setCell ⟨B,0,none⟩ v0).setCell ⟨B,1,none⟩ v1).setCell ⟨B,2,none⟩ v2).setCell ⟨B,3,none⟩ v3).setCell ⟨B,4,none⟩ v4):=((((hb.setCell (Nat.le_refl _) _).setCell (Nat.le_refl _) _).setCell (Nat.le_refl _) _).setCell (Nat.le_refl _) _).setCell (Nat.le_refl _) _
 have hs:(((((V.setCell ⟨B,0,none⟩ v0).setCell ⟨B,1,none⟩ v1).setCell ⟨B,2,none⟩ v2).setCell ⟨B,3,none⟩ v3).setCell ⟨B,4,none⟩ v4).heap.size=V.heap.size:=by simp[World.setCell]
 refine⟨?_,?_,?_,?_,?_,by rw[hs];exact hB,hs,hbb⟩ <;> simp[go_sem,h0,h1,h2,h3,h4]
theorem z7y {V w:World} {B0 B:Nat} {u0 u1 u2 u3 u4 v0 v1 v2 v3 v4:Value} (h0:V.cell? ⟨B,0,none⟩=some u0) (h1:V.cell? ⟨B,1,none⟩=some u1) (h2:V.cell? ⟨B,2,none⟩=some u2) (h3:V.cell? ⟨B,3,none⟩=some u3) (h4:V.cell? ⟨B,4,none⟩=some u4) (hb:Below B0 w V) (hB0:B0≤B) :
  ∃ Y,Y=((((V.setCell ⟨B,0,none⟩ v0).setCell ⟨B,1,none⟩ v1).setCell ⟨B,2,none⟩ v2).setCell ⟨B,3,none⟩ v3).setCell ⟨B,4,none⟩ v4∧Y.cell? ⟨B,0,none⟩=some v0∧Y.cell? ⟨B,1,none⟩=some v1∧Y.cell? ⟨B,2,none⟩=some v2∧Y.cell? ⟨B,3,none⟩=some v3∧Y.cell? ⟨B,4,none⟩=some v4∧Below B0 w Y:=by
 refine⟨_,rfl,?_⟩
 have hbb:Below B0 w (((((V.setCell ⟨B,0,none⟩ v0).setCell ⟨B,1,none⟩ v1).setCell ⟨B,2,none⟩ v2).setCell ⟨B,3,none⟩ v3).setCell ⟨B,4,none⟩ v4):=((((hb.setCell hB0 _).setCell hB0 _).setCell hB0 _).setCell hB0 _).setCell hB0 _
 refine⟨?_,?_,?_,?_,?_,hbb⟩ <;> simp[go_sem,h0,h1,h2,h3,h4]
theorem z0d {P:Program} {o:Oper} {a:Act} {C:World→Prop} {w:World} {v:Value} (h:(execOp a.eval o).run P w=.ok (.value v) w):o.quietAt P a C w v:=by
 unfold Oper.quietAt;rw[h];exact⟨rfl,rfl⟩
theorem z1k {P:Program} {o:Oper} {a:Act} {C:World→Prop} {w:World} {v:Value} (f:FuncId) (args:Array Value) (h:(execOp a.eval o).run P w=.ok (.enter f args) w) (hc:Calls P f args w fun e w'=>e=.returned v∧C w'):o.quietAt P a C w v:=by
 unfold Oper.quietAt;rw[h];exact⟨rfl,hc⟩
def runAll (P:Program):List Oper→Act→World→Option (Act × World)
 | [],a,w=>some (a,w)
 | o::os,a,w=>match o.guard,(execOp a.eval o).run P w with
  | none,.ok (.value v) w'=>runAll P os (a.put o.dst v) w'
  | _,_=>none
theorem wpList_runAll {P:Program} {ops:Array Oper} {Q:Exit→Act→World→Prop} {rest:List Oper}:∀ (l:List Oper) (a:Act) (w:World) (a':Act) (w':World),runAll P l a w=some (a',w')→wpList P ops Q rest a' w'→wpList P ops Q (l++rest) a w
 | [],a,w,a',w',h,hh=>by
  simp only[runAll,Option.some.injEq,Prod.mk.injEq] at h
  rw[← h.1,← h.2] at hh
  exact hh
 | o::os,a,w,a',w',h,hh=>by
  unfold runAll at h
  split at h
  ·rename_i hg hr
   refine wpList_plain hg fun K hK=>?_
   unfold Oper.wp
   rw[hr]
   exact hK _ _ (wpList_runAll os _ _ a' w' h hh)
  ·cases h
theorem wpList_take {P:Program} {ops:Array Oper} {Q:Exit→Act→World→Prop} {l:List Oper} {a:Act} {w:World} (n:Nat) (a':Act) (w':World) (h:runAll P (l.take n) a w=some (a',w')) (hh:wpList P ops Q (l.drop n) a' w'):wpList P ops Q l a w:=by
 have:=wpList_runAll (ops:=ops) (Q:=Q) (rest:=l.drop n) _ _ _ _ _ h hh
 rwa [List.take_append_drop] at this
theorem results_cell {P:Program} {fn:Func} {tmps:Array Value} {w:World} {a:Nat} {t:TypeId} {b:Addr} {v:Value} (hr:fn.results=#[.cell a t]) (ha:tmps.getD a undef=.pointer (some b)) (hl:(loadVar t b).run P w=.ok v w) :
  (results fn tmps).run P w=.ok v w:=by
 unfold results
 rw[hr]
 have ha':tmps[a]?.getD undef=.pointer (some b):=by simpa using ha
 simp[ha',hl,asAddr]
section
def z3q (n:Nat) (g:Nat→Value):Array Value:=((List.range n).map g).toArray
theorem z7z (n:Nat) (g:Nat→Value):(z3q n g).size=n:=by simp[z3q]
theorem z6u (n:Nat) (g:Nat→Value) (i:Nat) (h:i<n):(z3q n g)[i]?=some (g i):=by simp[z3q,h]
theorem z9c {n:Nat} {g h:Nat→Value} (e:∀ i,i<n→g i=h i):z3q n g=z3q n h:=by
 unfold z3q
 congr 1
 apply List.map_congr_left
 intro i hi
 exact e i (by simpa using hi)
def updC (g:Nat→Value) (i:Nat) (v:Value) (j:Nat):Value:=if j=i then v else g j
theorem cellsN_put (n:Nat) (g:Nat→Value) (i:Nat) (v:Value):(z3q n g).setIfInBounds i v=z3q n (updC g i v):=by
 apply Array.ext_getElem?
 intro j
 rw[Array.getElem?_setIfInBounds]
 by_cases hj:j<n
 ·by_cases hij:i=j
  ·subst hij
   rw[if_pos rfl,z7z,if_pos hj,z6u _ _ i hj]
   simp[updC]
  ·rw[if_neg hij,z6u _ _ j hj,z6u _ _ j hj]
   simp[updC,Ne.symm hij]
 ·have h1:(z3q n g)[j]?=none:=by rw[Array.getElem?_eq_none_iff,z7z];omega
  have h2:(z3q n (updC g i v))[j]?=none:=by rw[Array.getElem?_eq_none_iff,z7z];omega
  rw[h1,h2]
  by_cases hij:i=j
  ·subst hij
   rw[if_pos rfl,z7z,if_neg hj]
  ·rw[if_neg hij]
def splC (g:Nat→Value) (k:Nat) (l:List Value) (j:Nat):Value:=if k≤j∧j<k+l.length then l.getD (j-k) undef else g j
theorem splC_cons (g:Nat→Value) (k:Nat) (v:Value) (l:List Value):splC (updC g k v) (k+1) l=splC g k (v::l):=by
 funext j
 unfold splC updC
 by_cases h1:j=k
 ·subst h1
  rw[if_neg (by omega),if_pos rfl,if_pos (by simp),Nat.sub_self]
  rfl
 ·by_cases h2:k+1≤j∧j<k+1+l.length
  ·rw[if_pos h2,if_pos (by simp only[List.length_cons];omega),show j-k=(j-(k+1))+1 by omega]
   rfl
  ·rw[if_neg h2,if_neg h1,if_neg (by simp only[List.length_cons];omega)]
theorem z5v {b n:Nat} {t:TypeId}:∀ (l:List Value) (k:Nat) (g:Nat→Value) (w:World),w.heap[b]?=some (.cells (z3q n g) t)→(w.setCells b k l).heap[b]?=some (.cells (z3q n (splC g k l)) t)
 | [],k,g,w,h=>by
  have e:splC g k []=g:=by funext j;unfold splC;rw[if_neg (by simp)]
  rw[e];exact h
 | v::l,k,g,w,h=>by
  rw[← splC_cons]
  refine z5v l (k+1) _ _ ?_
  rw[z1p v h,cellsN_put]
theorem z1n {b k:Nat}:∀ (l:List Value) (o:Nat) (w:World),k≠b→(w.setCells b o l).heap[k]?=w.heap[k]?
 | [],_,_,_=>rfl
 | v::l,o,w,h=>by
  show ((w.setCell ⟨b,o,none⟩ v).setCells b (o+1) l).heap[k]?=_
  rw[z1n l (o+1) _ h,Below.heap_setCell _ _ _ _ h]
theorem z6y {b:Nat}:∀ (l:List Value) (o:Nat) (w:World),(w.setCells b o l).heap.size=w.heap.size∧(w.setCells b o l).os=w.os∧(w.setCells b o l).tape=w.tape∧(w.setCells b o l).output=w.output
 | [],_,_=>⟨rfl,rfl,rfl,rfl⟩
 | v::l,o,w=>by
  have:=z6y (b:=b) l (o+1) (w.setCell ⟨b,o,none⟩ v)
  refine⟨this.1.trans (by simp[World.setCell]),this.2.1,this.2.2.1,this.2.2.2⟩
theorem cellsN_there {w:World} {b n:Nat} {g:Nat→Value} {t:TypeId} (h:w.heap[b]?=some (.cells (z3q n g) t)) (k m:Nat) (hk:k+m≤n):w.there b k m:=fun j hj=>by
 obtain⟨cc,cf,_⟩:=z0a h
 exact⟨by rw[cc (k+j) _ (z6u n g (k+j) (by omega))];rfl,cf _⟩
theorem z7a {w:World} {b n:Nat} {g:Nat→Value} {t:TypeId} (h:w.heap[b]?=some (.cells (z3q n g) t)) (k:Nat) (l:List Value) (hl:k+l.length≤n) (he:∀ j v,l[j]?=some v→g (k+j)=v):w.rangeAt b k l:=fun j v hv=>by
 have hj:j<l.length:=(List.getElem?_eq_some_iff.1 hv).1
 rw[(z0a h).1 (k+j) _ (z6u n g (k+j) (by omega)),he j v hv]
section
variable {P:Program} {ops:Array Oper} {rest:List Oper} {o:Oper} {a:Act} {w:World} {Q:Exit→Act→World→Prop}
theorem z0w (hw:Region.wanted o (yielded ops a.tmps)=true) (ty:TypeId) (x:Operand) (ho:o.op=.load ty x) (b k:Nat) (hx:a.eval x=.pointer (some ⟨b,k,none⟩)) (cs:Array Value) (d:TypeDesc) (hc:w.rangeAt b k cs.toList)
  (hu:P.underlying ty=some d) (hd:d.isRow=true) (hi:(P.info? ty).map (·.size)=some cs.size)
  (h:wpList P ops Q rest (a.put o.dst (.agg cs)) w):wpList P ops Q (o::rest) a w:=
 BigFrame.wpList_want hw fun _ hK=>wp_load_mid ty x ho b k hx cs.toList d hc hu hd (by rw[Array.length_toList];exact hi) (by rw[Array.toArray_toList];exact hK _ _ h)
theorem z1v (hgd:o.guard=none) (ty:TypeId) (x y:Operand) (ho:o.op=.store ty x y) (b k:Nat) (cs:Array Value) (hx:a.eval x=.pointer (some ⟨b,k,none⟩)) (hy:a.eval y=.agg cs)
  (ht:w.there b k cs.size) (hi:(P.info? ty).map (·.size)=some cs.size) (h1:cs.all (·.oneCell')=true)
  (h:∀ w',w'=w.setCells b k cs.toList→wpList P ops Q rest (a.put o.dst undef) w'):wpList P ops Q (o::rest) a w:=
 wpList_store_mid hgd ty x y ho b k cs hx hy ht hi h1 (h _ rfl)
end
structure Chg (O:Nat→Prop) (w w':World):Prop where
 os:w'.os=w.os
 tape:w'.tape=w.tape
 output:w'.output=w.output
 size:w.heap.size≤w'.heap.size
 block:∀ k,k<w.heap.size→¬O k→w'.heap[k]?=w.heap[k]?
theorem Chg.refl (O:Nat→Prop) (w:World):Chg O w w:=⟨rfl,rfl,rfl,Nat.le_refl _,fun _ _ _=>rfl⟩
theorem Chg.trans {O:Nat→Prop} {w w' w'':World} (h:Chg O w w') (h2:Chg O w' w''):Chg O w w'':=
 ⟨h2.os.trans h.os,h2.tape.trans h.tape,h2.output.trans h.output,Nat.le_trans h.size h2.size,fun k hk ho=>(h2.block k (Nat.lt_of_lt_of_le hk h.size) ho).trans (h.block k hk ho)⟩
theorem Chg.of {O:Nat→Prop} {w w':World} (h:Below w.heap.size w w'):Chg O w w':=⟨h.os,h.tape,h.output,h.size,fun k hk _=>h.block k hk⟩
theorem Chg.step {O:Nat→Prop} {w w' w'':World} (h:Chg O w w') (h2:Below w'.heap.size w' w''):Chg O w w'':=h.trans (Chg.of h2)
theorem Chg.drew {O:Nat→Prop} {w w':World} (h:Chg O w w'):Chg O w w'.drew:=⟨h.os,h.tape,h.output,h.size,h.block⟩
theorem Chg.alloc {O:Nat→Prop} {w w':World} (h:Chg O w w') (o:Obj):Chg O w (w'.alloc o):=h.step ((Below.refl _ _).alloc (Nat.le_refl _) _)
theorem Chg.set {O:Nat→Prop} {w w':World} {b i:Nat} (h:Chg O w w') (hb:O b) (v:Value):Chg O w (w'.setCell ⟨b,i,none⟩ v):=
 ⟨h.os,h.tape,h.output,by simpa [World.setCell] using h.size,fun k hk ho=>(Below.heap_setCell _ _ _ _ (fun e=>ho (by rw[e];exact hb))).trans (h.block k hk ho)⟩
theorem Chg.sets {O:Nat→Prop} {w w':World} {b i:Nat} (h:Chg O w w') (hb:O b) (l:List Value):Chg O w (w'.setCells b i l):=by
 obtain⟨h1,h2,h3,h4⟩:=z6y (b:=b) l i w'
 exact⟨h2.trans h.os,h3.trans h.tape,h4.trans h.output,by rw[h1];exact h.size,fun k hk ho=>(z1n l i w' (fun e=>ho (by rw[e];exact hb))).trans (h.block k hk ho)⟩
theorem Chg.own {w w' : World} {b i : Nat} (h : Chg (· = b) w w') (v : Value) : Chg (· = b) w (w'.setCell ⟨b, i, none⟩ v) := h.set (O := (· = b)) rfl v
theorem Chg.owns {w w' : World} {b i : Nat} (h : Chg (· = b) w w') (l : List Value) : Chg (· = b) w (w'.setCells b i l) := h.sets (O := (· = b)) rfl l
theorem Chg.mono {O O':Nat→Prop} {w w':World} (h:Chg O w w') (ho:∀ k,k<w.heap.size→O k→O' k):Chg O' w w':=⟨h.os,h.tape,h.output,h.size,fun k hk hn=>h.block k hk (fun e=>hn (ho k hk e))⟩
theorem Chg.kept {O:Nat→Prop} {w w':World} {b:Nat} {ob:Obj} (h:Chg O w w') (hb:w.heap[b]?=some ob) (ho:¬O b):w'.heap[b]?=some ob:=by
 rw[h.block b (Array.getElem?_eq_some_iff.1 hb).1 ho];exact hb
theorem Chg.below {O:Nat→Prop} {B:Nat} {w0 w w':World} (h:Chg O w w') (hb:Below B w0 w) (hB:B≤w.heap.size) (ho:∀ k,O k→B≤k):Below B w0 w':=
 hb.trans ⟨h.os,h.tape,h.output,h.size,fun k hk=>h.block k (by omega) (fun e=>by have:=ho k e;omega)⟩
end
def U32 (a:Int):Prop:=0≤a∧a<4294967296
theorem u32_of {a:Int} (h:0≤a∧a≤4294967295):U32 a:=⟨h.1,by omega⟩
def wSlt (a b:Int):Int:=if wrap32 a<wrap32 b then 1 else 0
def wSltu (a b:Int):Int:=if a<b then 1 else 0
def wSll (a b:Int):Int:=a*2 ^ (b%32).toNat%4294967296
def wSrl (a b:Int):Int:=a/2 ^ (b%32).toNat
def wSra (a b:Int):Int:=wrap32 a/2 ^ (b%32).toNat%4294967296
def wMulh (a b:Int):Int:=wrap32 a*wrap32 b/4294967296%4294967296
def wMulhsu (a b:Int):Int:=wrap32 a*b/4294967296%4294967296
def wMulhu (a b:Int):Int:=a*b/4294967296
def wDiv (a b:Int):Int:=if b=0 then 4294967295 else (wrap32 a).tdiv (wrap32 b)%4294967296
def wDivu (a b:Int):Int:=if b=0 then 4294967295 else a/b
def wRem (a b:Int):Int:=if b=0 then a else (wrap32 a).tmod (wrap32 b)%4294967296
def wRemu (a b:Int):Int:=if b=0 then a else a%b
def opV (s:List UInt8) (a b:Int):Option Int:=
 if s==[97,100,100] then some ((a+b)%4294967296)
 else if s==[115,117,98] then some ((a-b)%4294967296)
 else if s==[115,108,108] then some (wSll a b)
 else if s==[115,108,116] then some (wSlt a b)
 else if s==[115,108,116,117] then some (wSltu a b)
 else if s==[120,111,114] then some (bits .xor .u32 a b)
 else if s==[115,114,108] then some (wSrl a b)
 else if s==[115,114,97] then some (wSra a b)
 else if s==[111,114] then some (bits .or .u32 a b)
 else if s==[97,110,100] then some (bits .and .u32 a b)
 else if s==[109,117,108] then some (a*b%4294967296)
 else if s==[109,117,108,104] then some (wMulh a b)
 else if s==[109,117,108,104,115,117] then some (wMulhsu a b)
 else if s==[109,117,108,104,117] then some (wMulhu a b)
 else if s==[100,105,118] then some (wDiv a b)
 else if s==[100,105,118,117] then some (wDivu a b)
 else if s==[114,101,109] then some (wRem a b)
 else if s==[114,101,109,117] then some (wRemu a b)
 else none
def opN (s:List UInt8) (a b:Int):Int:=(opV s a b).getD 0
def opE (s:List UInt8):Int:=if (opV s 0 0).isSome then 0 else 1
theorem z4w (a:Int):-2147483648≤wrap32 a∧wrap32 a<2147483648:=by unfold wrap32;omega
theorem z0y {n:Int} (h:-9223372036854775808≤n) (h':n<9223372036854775808):wrap64 n=n:=by unfold wrap64;omega
theorem z3a (a:Int):wrap64 (wrap32 a)=wrap32 a:=by
 have:=z4w a;exact z0y (by omega) (by omega)
theorem z9g {b:Int} (hb:U32 b):wrap32 b=0↔b=0:=by
 obtain⟨h1,h2⟩:=hb;unfold wrap32;omega
theorem mul_bd {a b A B:Int} (ha:-A≤a) (ha':a≤A) (hb:-B≤b) (hb':b≤B):-(A*B)≤a*b∧a*b≤A*B:=by
 have hA:0≤A:=by omega
 have hB:0≤B:=by omega
 have h1:a*b≤A*B:=by
  rcases Int.le_total 0 b with h | h
  ·exact Int.le_trans (Int.mul_le_mul_of_nonneg_right ha' h) (Int.mul_le_mul_of_nonneg_left hb' hA)
  ·have e:a*b=(-a)*(-b):=(Int.neg_mul_neg a b).symm
   rw[e]
   exact Int.le_trans (Int.mul_le_mul_of_nonneg_right (by omega:-a≤A) (by omega)) (Int.mul_le_mul_of_nonneg_left (by omega) hA)
 have h2:-(a*b)≤A*B:=by
  rcases Int.le_total 0 b with h | h
  ·have e:-(a*b)=(-a)*b:=(Int.neg_mul a b).symm
   rw[e]
   exact Int.le_trans (Int.mul_le_mul_of_nonneg_right (by omega:-a≤A) h) (Int.mul_le_mul_of_nonneg_left hb' hA)
  ·have e:-(a*b)=a*(-b):=(Int.mul_neg a b).symm
   rw[e]
   exact Int.le_trans (Int.mul_le_mul_of_nonneg_right ha' (by omega)) (Int.mul_le_mul_of_nonneg_left (by omega) hA)
 exact⟨by omega,h1⟩
theorem mulh_form (a b:Int):IntKind.u64.wrap (wrap64 (wrap64 (wrap32 a)*wrap64 (wrap32 b)))/4294967296%4294967296=wMulh a b:=by
 rw[z3a,z3a,IntKind.wrap_u64]
 have h1:=z4w a
 have h2:=z4w b
 have h:=mul_bd (a:=wrap32 a) (b:=wrap32 b) (A:=2147483648) (B:=2147483648) (by omega) (by omega) (by omega) (by omega)
 unfold wMulh
 generalize wrap32 a*wrap32 b=p at h ⊢
 rw[z0y (by omega) (by omega)]
 omega
theorem mulhsu_form {a b:Int} (hb:U32 b):IntKind.u64.wrap (wrap64 (wrap64 (wrap32 a)*b))/4294967296%4294967296=wMulhsu a b:=by
 rw[z3a,IntKind.wrap_u64]
 have h1:=z4w a
 obtain⟨h2,h3⟩:=hb
 have h:=mul_bd (a:=wrap32 a) (b:=b) (A:=2147483648) (B:=4294967295) (by omega) (by omega) (by omega) (by omega)
 unfold wMulhsu
 generalize wrap32 a*b=p at h ⊢
 rw[z0y (by omega) (by omega)]
 omega
theorem z7j {a b:Int} (ha:U32 a) (hb:U32 b):IntKind.u64.wrap (a*b)/4294967296%4294967296=wMulhu a b:=by
 rw[IntKind.wrap_u64]
 obtain⟨h0,h1⟩:=ha
 obtain⟨h2,h3⟩:=hb
 have h:=mul_bd (a:=a) (b:=b) (A:=4294967295) (B:=4294967295) (by omega) (by omega) (by omega) (by omega)
 have h':0≤a*b:=Int.mul_nonneg h0 h2
 unfold wMulhu
 generalize a*b=p at h h' ⊢
 omega
theorem tdiv_bd (a b:Int):-(a.natAbs:Int)≤a.tdiv b∧a.tdiv b≤a.natAbs:=by
 have h:(a.tdiv b).natAbs≤a.natAbs:=by rw[Int.natAbs_tdiv];exact Nat.div_le_self _ _
 omega
theorem div_form {a b:Int} (hb:b≠0):wrap64 ((wrap64 (wrap32 a)).tdiv (wrap64 (wrap32 b)))%4294967296=wDiv a b:=by
 rw[z3a,z3a]
 have h1:=z4w a
 have h:=tdiv_bd (wrap32 a) (wrap32 b)
 unfold wDiv
 rw[if_neg hb,z0y (by omega) (by omega)]
theorem rem_form {a b:Int} (hb:b≠0):(wrap64 (wrap32 a)).tmod (wrap64 (wrap32 b))%4294967296=wRem a b:=by
 rw[z3a,z3a]
 unfold wRem
 rw[if_neg hb]
theorem divu_form {a b:Int} (ha:U32 a) (hb:U32 b) (h:b≠0):a.tdiv b%4294967296=wDivu a b:=by
 obtain⟨h0,h1⟩:=ha
 obtain⟨h2,h3⟩:=hb
 unfold wDivu
 rw[if_neg h,Int.tdiv_eq_ediv_of_nonneg h0]
 have h4:0≤a/b:=Int.ediv_nonneg h0 h2
 have h5:a/b≤a:=Int.ediv_le_self _ h0
 omega
theorem den_ne {b:Int} (hb:U32 b) (h:b≠0):wrap64 (wrap32 b)≠0:=by
 rw[z3a]
 exact fun e=>h ((z9g hb).mp e)
theorem z1t (o:BinOp) (a b:Int):U32 (bits o .u32 a b):=by
 unfold bits U32
 rw[IntKind.wrap_u32']
 omega
theorem pow_pos (n:Nat):(0:Int)<2 ^ n:=Int.pow_pos (by omega)
theorem wSrl_u32 {a:Int} (b:Int) (ha:U32 a):U32 (wSrl a b):=by
 obtain⟨h0,h1⟩:=ha
 unfold wSrl U32
 exact⟨Int.ediv_nonneg h0 (Int.le_of_lt (pow_pos _)),Int.lt_of_le_of_lt (Int.ediv_le_self _ h0) h1⟩
theorem z2x {c:Bool} {x y:Int} {r:Option Int} (hy:U32 y) (hr:r=some x→U32 x) (h:(if c then some y else r)=some x):U32 x:=by
 cases c with
 | true=>simp at h;subst h;exact hy
 | false=>exact hr (by simpa using h)
theorem opV_u32 {s:List UInt8} {a b x:Int} (ha:U32 a) (hb:U32 b) (h:opV s a b=some x):U32 x:=by
  have hm:∀ y:Int,U32 (y%4294967296):=fun y=>by unfold U32;omega
  have h4:U32 (wMulhu a b):=by
    rw[← z7j ha hb];exact hm _
  have h5 : U32 (wDiv a b) := by unfold wDiv; split; · simp [U32]
                                 · exact hm _
  have h6:U32 (wDivu a b):=by
    by_cases h0:b=0
    · unfold wDivu;rw[if_pos h0];simp[U32]
    · rw[← divu_form ha hb h0];exact hm _
  have h7 : U32 (wRem a b) := by unfold wRem; split; · exact ha
                                 · exact hm _
  have h8:U32 (wRemu a b):=by
    unfold wRemu;split
    · exact ha
    · rename_i h0
      obtain⟨h2,h3⟩:=hb
      have:=Int.emod_nonneg a h0
      have:=Int.emod_lt_of_pos a (show 0<b by omega)
      exact⟨by omega,by omega⟩
  have h9:U32 (wSlt a b):=by unfold wSlt;split <;> simp[U32]
  have h10:U32 (wSltu a b):=by unfold wSltu;split <;> simp[U32]
  unfold opV at h
  revert h
  refine z2x (hm _) ?_
  refine z2x (hm _) ?_
  refine z2x (hm _) ?_
  refine z2x h9 ?_
  refine z2x h10 ?_
  refine z2x (z1t _ _ _) ?_
  refine z2x (wSrl_u32 _ ha) ?_
  refine z2x (hm _) ?_
  refine z2x (z1t _ _ _) ?_
  refine z2x (z1t _ _ _) ?_
  refine z2x (hm _) ?_
  refine z2x (hm _) ?_
  refine z2x (hm _) ?_
  refine z2x h4 ?_
  refine z2x h5 ?_
  refine z2x h6 ?_
  refine z2x h7 ?_
  refine z2x h8 ?_
  intro e
  cases e
theorem opN_u32 (s:List UInt8) {a b:Int} (ha:U32 a) (hb:U32 b):U32 (opN s a b):=by
 unfold opN
 cases h:opV s a b with
 | none=>simp[U32]
 | some x=>exact opV_u32 ha hb h
def z2g (x n:Int):Int:=if n<1∨32<n then 0 else wrap32 (x*2 ^ (32-n).toNat%4294967296)/2 ^ (32-n).toNat%4294967296
def z0j (x lo n:Int):Int:=if lo<0∨31<lo∨n<1∨32-lo<n then 0 else x*2 ^ (32-lo-n).toNat%4294967296/2 ^ (32-n).toNat
theorem z8m (x n:Int):U32 (z2g x n):=by
 unfold z2g U32;split
 ·omega
 ·exact⟨Int.emod_nonneg _ (by omega),Int.emod_lt_of_pos _ (by omega)⟩
theorem z4n (x lo n:Int):U32 (z0j x lo n):=by
 unfold z0j;split
 ·simp[U32]
 ·have h0:0≤x*2 ^ (32-lo-n).toNat%4294967296:=Int.emod_nonneg _ (by omega)
  have h1:x*2 ^ (32-lo-n).toNat%4294967296<4294967296:=Int.emod_lt_of_pos _ (by omega)
  exact⟨Int.ediv_nonneg h0 (Int.le_of_lt (pow_pos _)),Int.lt_of_le_of_lt (Int.ediv_le_self _ h0) h1⟩
theorem div_mul_pow (x p q:Nat):x*2 ^ p%2 ^ (p+q)=x%2 ^ q*2 ^ p:=by
 rw[Nat.pow_add,Nat.mul_comm (2 ^ p),Nat.mul_mod_mul_right]
theorem mod_pow_div (x l n:Nat):x%2 ^ (l+n)/2 ^ l=x/2 ^ l%2 ^ n:=by
 rw[Nat.pow_add,Nat.mod_mul_right_div_self]
theorem bitsV_nat (x l n:Nat) (hl:l<32) (hn:1≤n) (h:l+n≤32):z0j x l n=((x/2 ^ l%2 ^ n:Nat):Int):=by
 unfold z0j
 rw[if_neg (by omega)]
 have e1:(32-(l:Int)-(n:Int)).toNat=32-l-n:=by omega
 have e2:(32-(n:Int)).toNat=(32-l-n)+l:=by omega
 rw[e1,e2]
 have e3:(4294967296:Int)=((2 ^ ((32-l-n)+(l+n)):Nat):Int):=by
  have:(32-l-n)+(l+n)=32:=by omega
  rw[this];rfl
 have e4:(x:Int)*2 ^ (32-l-n)%4294967296/2 ^ ((32-l-n)+l)=((x*2 ^ (32-l-n)%2 ^ ((32-l-n)+(l+n))/2 ^ ((32-l-n)+l):Nat):Int):=by
  rw[e3];simp
 rw[e4,div_mul_pow,Nat.pow_add 2 (32-l-n) l,← Nat.div_div_eq_div_mul,Nat.mul_div_cancel _ (Nat.two_pow_pos _),mod_pow_div]
theorem z0t {x:Int} (hx:U32 x) (l n:Nat) (hl:l<32) (hn:1≤n) (h:l+n≤32):z0j x l n=x/2 ^ l%2 ^ n:=by
 obtain⟨X,rfl⟩:=Int.eq_ofNat_of_zero_le hx.1
 rw[bitsV_nat X l n hl hn h]
 simp
theorem z2w {x y:Int} (k:Nat) (hk:k≤32) (hx:U32 x) (hy:0≤y) (hy':y<2 ^ k) (hd:x%2 ^ k=0):bits .or .u32 x y=x+y:=by
 obtain⟨X,rfl⟩:=Int.eq_ofNat_of_zero_le hx.1
 obtain⟨Y,rfl⟩:=Int.eq_ofNat_of_zero_le hy
 have h1:X<4294967296:=by have:=hx.2;omega
 have hY:Y<2 ^ k:=by exact_mod_cast hy'
 have h2:Y<4294967296:=Nat.lt_of_lt_of_le hY (Nat.le_trans (Nat.pow_le_pow_right (by omega) hk) (by decide))
 have hX:X%2 ^ k=0:=by exact_mod_cast hd
 have e:X=2 ^ k*(X/2 ^ k):=by
  have:=Nat.div_add_mod X (2 ^ k)
  omega
 rw[u32_or_nat X Y h1 h2]
 rw[e,← Nat.two_pow_add_eq_or_of_lt hY]
 rfl
section
theorem load_u32 {w:World} {b i:Nat} {v:Value} (h:w.cell? ⟨b,i,none⟩=some v):(Instr.loadAt 31 (.pointer (some ⟨b,i,none⟩))).run Tryz.prog w=.ok v w:=by
 have a:=Tryz.isAgg31
 go_simp
theorem load_bool {w:World} {b i:Nat} {v:Value} (h:w.cell? ⟨b,i,none⟩=some v):(Instr.loadAt 4 (.pointer (some ⟨b,i,none⟩))).run Tryz.prog w=.ok v w:=by
 have a:=Tryz.isAgg4
 go_simp
theorem store_u32 {w:World} {b i:Nat} {u:Value} (x:Int) (h:w.cell? ⟨b,i,none⟩=some u) (hf:w.frozen? ⟨b,i,none⟩=false):(Instr.storeAt 31 (.pointer (some ⟨b,i,none⟩)) (.int .u32 x)).run Tryz.prog w=.ok () (w.setCell ⟨b,i,none⟩ (.int .u32 x)):=by
 have a:=Tryz.isAgg31
 have z:=Tryz.sizeOf31
 go_simp
theorem store_bool {w:World} {b i:Nat} {u:Value} (x:Bool) (h:w.cell? ⟨b,i,none⟩=some u) (hf:w.frozen? ⟨b,i,none⟩=false):(Instr.storeAt 4 (.pointer (some ⟨b,i,none⟩)) (.bool x)).run Tryz.prog w=.ok () (w.setCell ⟨b,i,none⟩ (.bool x)):=by
 have a:=Tryz.isAgg4
 have z:=Tryz.sizeOf4
 go_simp
structure Wrote1 (b i:Nat) (v:Value) (cs:Array Value) (t:TypeId) (w w':World):Prop where
 block:w'.heap[b]?=some (.cells (cs.setIfInBounds i v) t)
 other:∀ k,k≠b→w'.heap[k]?=w.heap[k]?
 size:w'.heap.size=w.heap.size
 below:∀ (B:Nat) (w0:World),B≤b→Below B w0 w→Below B w0 w'
theorem wrote1 {w:World} {b i:Nat} {cs:Array Value} {t:TypeId} (h:w.heap[b]?=some (.cells cs t)) (v:Value):Wrote1 b i v cs t w (w.setCell ⟨b,i,none⟩ v):=
 ⟨z1p v h,fun k hk=>Below.heap_setCell _ _ _ _ hk,by simp[World.setCell],fun _ _ hB hb=>hb.setCell hB _⟩
section
variable {ops:Array Oper} {rest:List Oper} {o:Oper} {a:Act} {w:World} {Q:Exit→Act→World→Prop}
theorem z8k (hgd:o.guard=none) {x:Operand} (ho:o.op=.load 31 x) {b i:Nat} (hx:a.eval x=.pointer (some ⟨b,i,none⟩)) {cs:Array Value} {t:TypeId} (hw:w.heap[b]?=some (.cells cs t)) {v:Value} (hv:cs[i]?=some v)
  (h:wpList Tryz.prog ops Q rest (a.put o.dst v) w):wpList Tryz.prog ops Q (o::rest) a w:=by
 refine wpList_plain hgd fun K hK=>?_
 unfold Oper.wp execOp
 simp only[ho,hx,Sem.run_bind,Sem.run_pure,Result.andThen_ok,load_u32 ((z0a hw).1 i v hv)]
 exact hK _ _ h
theorem wpList_load_bool (hgd:o.guard=none) {x:Operand} (ho:o.op=.load 4 x) {b i:Nat} (hx:a.eval x=.pointer (some ⟨b,i,none⟩)) {cs:Array Value} {t:TypeId} (hw:w.heap[b]?=some (.cells cs t)) {v:Value} (hv:cs[i]?=some v)
  (h:wpList Tryz.prog ops Q rest (a.put o.dst v) w):wpList Tryz.prog ops Q (o::rest) a w:=by
 refine wpList_plain hgd fun K hK=>?_
 unfold Oper.wp execOp
 simp only[ho,hx,Sem.run_bind,Sem.run_pure,Result.andThen_ok,load_bool ((z0a hw).1 i v hv)]
 exact hK _ _ h
theorem wpList_store_u32 (hgd:o.guard=none) {x y:Operand} (ho:o.op=.store 31 x y) {b i:Nat} (hx:a.eval x=.pointer (some ⟨b,i,none⟩)) {n:Int} (hy:a.eval y=.int .u32 n) {cs:Array Value} {t:TypeId} (hw:w.heap[b]?=some (.cells cs t)) {u:Value} (hu:cs[i]?=some u)
  (h:∀ w',Wrote1 b i (.int .u32 n) cs t w w'→wpList Tryz.prog ops Q rest (a.put o.dst undef) w'):wpList Tryz.prog ops Q (o::rest) a w:=by
 refine wpList_plain hgd fun K hK=>?_
 obtain⟨cc,cf,_⟩:=z0a hw
 unfold Oper.wp execOp
 simp only[ho,hx,hy,Sem.run_bind,Sem.run_pure,Result.andThen_ok,store_u32 n (cc i u hu) (cf i)]
 exact hK _ _ (h _ (wrote1 hw _))
theorem wpList_store_bool (hgd:o.guard=none) {x y:Operand} (ho:o.op=.store 4 x y) {b i:Nat} (hx:a.eval x=.pointer (some ⟨b,i,none⟩)) {n:Bool} (hy:a.eval y=.bool n) {cs:Array Value} {t:TypeId} (hw:w.heap[b]?=some (.cells cs t)) {u:Value} (hu:cs[i]?=some u)
  (h:∀ w',Wrote1 b i (.bool n) cs t w w'→wpList Tryz.prog ops Q rest (a.put o.dst undef) w'):wpList Tryz.prog ops Q (o::rest) a w:=by
 refine wpList_plain hgd fun K hK=>?_
 obtain⟨cc,cf,_⟩:=z0a hw
 unfold Oper.wp execOp
 simp only[ho,hx,hy,Sem.run_bind,Sem.run_pure,Result.andThen_ok,store_bool n (cc i u hu) (cf i)]
 exact hK _ _ (h _ (wrote1 hw _))
end
end
theorem z6o {x y:Int} (h:x=y):Ending.returned (.int .u32 x)=.returned (.int .u32 y):=by rw[h]
theorem rBits_form {x lo n:Int} (hx:U32 x) (c1:0≤lo) (c2:lo<32) (c3:1≤n) (c4:n≤32-lo):x/2 ^ lo.toNat*2 ^ (32-n).toNat%4294967296/2 ^ (32-n).toNat=z0j x lo n:=by
 obtain⟨X,rfl⟩:=Int.eq_ofNat_of_zero_le hx.1
 obtain⟨l,rfl⟩:=Int.eq_ofNat_of_zero_le c1
 obtain⟨N,rfl⟩:=Int.eq_ofNat_of_zero_le (show 0≤n by omega)
 rw[bitsV_nat X l N (by omega) (by omega) (by omega)]
 have e1:(32-(N:Int)).toNat=32-N:=by omega
 have e2:((l:Int)).toNat=l:=by omega
 have e3:(4294967296:Int)=((2 ^ ((32-N)+N):Nat):Int):=by
  have:(32-N)+N=32:=by omega
  rw[this];rfl
 have e4:(X:Int)/2 ^ l*2 ^ (32-N)%4294967296/2 ^ (32-N)=((X/2 ^ l*2 ^ (32-N)%2 ^ ((32-N)+N)/2 ^ (32-N):Nat):Int):=by
  rw[e3];simp
 rw[e1,e2,e4,div_mul_pow,Nat.mul_div_cancel _ (Nat.two_pow_pos _)]
theorem z4k (x lo n:Int) (hx:U32 x) (w:World) :
  Calls Tryz.prog 37 #[.int .u32 x,.int .i64 lo,.int .i64 n] w fun e w'=>e=.returned (.int .u32 (z0j x lo n))∧w'=w:=by
 by_cases c:lo<0∨31<lo∨n<1∨32-lo<n
 ·have e:z0j x lo n=0:=by unfold z0j;rw[if_pos c]
  rw[e]
  have C:Hid (lo<0∨31<lo∨n<1∨32-lo<n):=c
  clear c e
  obtain⟨h0,h1⟩:=hx
  by_cases c1:lo<0
  ·go_enter Tryz.func37,Tryz.ntmps37
   go_wp2
   go_ret
   exact⟨rfl,rfl⟩
  ·by_cases c2:31<lo
   ·go_enter Tryz.func37,Tryz.ntmps37
    go_wp2
    go_ret
    exact⟨rfl,rfl⟩
   ·by_cases c3:n<1
    ·go_enter Tryz.func37,Tryz.ntmps37
     go_wp2
     go_ret
     exact⟨rfl,rfl⟩
    ·have c4:32-lo<n:=by unfold Hid at C;omega
     go_enter Tryz.func37,Tryz.ntmps37
     go_wp2
     go_ret
     exact⟨rfl,rfl⟩
 ·have c1:0≤lo:=by omega
  have c2:lo<32:=by omega
  have c3:1≤n:=by omega
  have c4:n≤32-lo:=by omega
  have hf:Hid _:=rBits_form hx c1 c2 c3 c4
  obtain⟨h0,h1⟩:=hx
  clear c
  go_enter Tryz.func37,Tryz.ntmps37
  go_wp2
  go_ret
  exact⟨z6o hf,rfl⟩
section
section
variable {P:Program} {ops:Array Oper} {Q:Exit→Act→World→Prop} {S:World→Prop}
variable {o:Oper} {os:List Oper} {a:Act} {w:World}
theorem z3b (v:Value) (d:Option Tmp) (hd:o.dst=d) (hw:Region.wanted o (yielded ops a.tmps)=true) (hv:(execOp a.eval o).run P w=.ok (.value v) w) (h:wpList P ops Q os (a.put d v) w):wpList P ops Q (o::os) a w:=by
 subst hd
 unfold wpList
 rw[if_pos hw]
 refine Or.inl ?_
 unfold Oper.wp
 rw[hv]
 exact h
end
end
section
structure Al where
 i:Nat
 p:Nat
 t:Nat
 k:Nat
 q:Nat
 z:Array Value
 f:Array Value
def Al.allocs (r:Al) (o:Oper):Bool:=(match o.op with | .alloc t=>t==r.t | _=>false)&&o.dst==some r.p
def waitsB (o:Oper) (m:Nat):Bool:=o.after.any fun e=>Region.binds .any e&&e.on==m
def readsB (l:List Oper) (o:Oper) (q:Nat):Bool:=(List.range l.length).all fun m=>match l[m]? with | some om=>om.dst != some q||waitsB o m | none=>true
def Al.stores (l:List Oper) (r:Al) (o:Oper):Bool:=
 (match o.op with | .store t (.tmp p) (.tmp q)=>t==r.t&&p==r.p&&q==r.q | _=>false)&&o.dst==none&&waitsB o r.i&&readsB l o r.q
def plainB (l:List Oper) (als:List Al) (o:Oper):Bool:=
 (match o.op with | .alloc _=>false | .store ..=>false | _=>true) &&
 (als.all fun r=>o.dst != some r.p && !(o.looksAt l.toArray).contains r.p)&&(o.looksAt l.toArray).all fun q=>readsB l o q
def dstsB:List Oper→Bool
 | []=>true
 | o::os=>(match o.dst with | none=>true | some d=>os.all fun o'=>o'.dst != some d)&&dstsB os
def apartAl:List Al→Bool
 | []=>true
 | r::rs=>(rs.all fun s=>r.i != s.i&&r.p != s.p&&r.k != s.k)&&apartAl rs
def mixB (l:List Oper) (als:List Al):Bool:=
 Region.noSelect l.toArray&&(l.all fun o=>o.guard.isNone)&&dstsB l&&apartAl als &&
 (als.all fun r=>(match l[r.i]? with | some o=>r.allocs o | none=>false)&&(match l[r.k]? with | some o=>r.stores l o | none=>false)&&(als.all fun s=>r.q != s.p)) &&
 (List.range l.length).all fun i=>match l[i]? with
  | none=>false
  | some o=>(o.after.all fun e=>!Region.binds .any e||decide (e.on<i)) &&
    ((als.any fun r=>r.i==i)||(als.any fun r=>r.k==i)||plainB l als o)
def lay:List Oper→List Value→Act→Act
 | o::os,v::vs,a=>lay os vs (a.put o.dst v)
 | _,_,a=>a
theorem z6f (a:Act) (d:Option Nat) (v:Value):(a.put d v).tmps.size=a.tmps.size:=by cases d <;> simp[Act.put]
theorem z6l (a:Act) (d:Option Nat) (v:Value):(a.put d v).defers=a.defers:=by cases d <;> rfl
theorem z1z {a:Act} {d:Option Nat} {v:Value} {q:Nat} (h:d≠some q):(a.put d v).tmps[q]?=a.tmps[q]?:=by
 cases d with
 | none=>rfl
 | some d=>
  have:d≠q:=fun e=>h (by rw[e])
  simp[Act.put,Array.getElem?_setIfInBounds_ne this]
theorem z6g {a:Act} {q:Nat} {v:Value} (h:q<a.tmps.size):(a.put (some q) v).tmps[q]?=some v:=by
 simp[Act.put,h]
theorem z6h:∀ (l:List Oper) (vs:List Value) (a:Act),(lay l vs a).tmps.size=a.tmps.size∧(lay l vs a).defers=a.defers
 | [],_,_=>⟨rfl,rfl⟩
 | _::_,[],_=>⟨rfl,rfl⟩
 | o::os,v::vs,a=>by
  have h:=z6h os vs (a.put o.dst v)
  rw[z6f,z6l] at h
  exact h
theorem lay_other (q:Nat):∀ (l:List Oper) (vs:List Value) (a:Act),(∀ o∈l,o.dst≠some q)→(lay l vs a).tmps[q]?=a.tmps[q]?
 | [],_,_,_=>rfl
 | _::_,[],_,_=>rfl
 | o::os,v::vs,a,h=>by
  show (lay os vs (a.put o.dst v)).tmps[q]?=_
  rw[lay_other q os vs _ (fun o' ho'=>h o' (List.mem_cons_of_mem _ ho')),z1z (h o List.mem_cons_self)]
theorem lay_at {d:Nat}:∀ (l:List Oper) (vs:List Value) (a:Act) (i:Nat) (o:Oper) (v:Value),dstsB l=true→l[i]?=some o→vs[i]?=some v→o.dst=some d→d<a.tmps.size→(lay l vs a).tmps[d]?=some v
 | [],_,_,_,_,_,_,h,_,_,_=>by simp at h
 | _::_,[],_,_,_,_,_,_,h,_,_=>by simp at h
 | o::os,v::vs,a,0,o',v',hB,h1,h2,hd,hs=>by
  simp only[List.getElem?_cons_zero,Option.some.injEq] at h1 h2
  subst h1 h2
  simp only[dstsB,hd,Bool.and_eq_true,List.all_eq_true] at hB
  show (lay os vs (a.put o.dst v)).tmps[d]?=_
  rw[lay_other d os vs _ (fun o' ho'=>by simpa using hB.1 o' ho'),hd,z6g hs]
 | o::os,v::vs,a,i+1,o',v',hB,h1,h2,hd,hs=>by
  simp only[List.getElem?_cons_succ] at h1 h2
  simp only[dstsB,Bool.and_eq_true] at hB
  exact lay_at os vs (a.put o.dst v) i o' v' hB.2 h1 h2 hd (by rw[z6f];exact hs)
theorem dsts_one:∀ (l:List Oper) (i j:Nat) (oi oj:Oper) (d:Nat),dstsB l=true→l[i]?=some oi→l[j]?=some oj→oi.dst=some d→oj.dst=some d→i=j
 | [],_,_,_,_,_,_,h,_,_,_=>by simp at h
 | o::os,0,0,_,_,_,_,_,_,_,_=>rfl
 | o::os,0,j+1,oi,oj,d,hB,h1,h2,d1,d2=>by
  simp only[List.getElem?_cons_zero,Option.some.injEq,List.getElem?_cons_succ] at h1 h2
  subst h1
  simp only[dstsB,d1,Bool.and_eq_true,List.all_eq_true] at hB
  have:=hB.1 oj (List.mem_of_getElem? h2)
  simp[d2] at this
 | o::os,i+1,0,oi,oj,d,hB,h1,h2,d1,d2=>by
  simp only[List.getElem?_cons_zero,Option.some.injEq,List.getElem?_cons_succ] at h1 h2
  subst h2
  simp only[dstsB,d2,Bool.and_eq_true,List.all_eq_true] at hB
  have:=hB.1 oi (List.mem_of_getElem? h1)
  simp[d1] at this
 | o::os,i+1,j+1,oi,oj,d,hB,h1,h2,d1,d2=>by
  simp only[List.getElem?_cons_succ] at h1 h2
  simp only[dstsB,Bool.and_eq_true] at hB
  rw[dsts_one os i j oi oj d hB.2 h1 h2 d1 d2]
theorem z9e:∀ (als:List Al),apartAl als=true→∀ r∈als,∀ s∈als,(r.i=s.i∨r.p=s.p∨r.k=s.k)→r=s
 | [],_,r,hr,_,_,_=>by cases hr
 | x::xs,h,r,hr,s,hs,he=>by
  simp only[apartAl,Bool.and_eq_true,List.all_eq_true,bne_iff_ne,ne_eq] at h
  rcases List.mem_cons.1 hr with rfl | hr'
  ·rcases List.mem_cons.1 hs with rfl | hs'
   ·rfl
   ·have:=h.1 s hs';rcases he with e | e | e
    ·exact absurd e this.1.1
    ·exact absurd e this.1.2
    ·exact absurd e this.2
  ·rcases List.mem_cons.1 hs with rfl | hs'
   ·have:=h.1 r hr';rcases he with e | e | e
    ·exact absurd e.symm this.1.1
    ·exact absurd e.symm this.1.2
    ·exact absurd e.symm this.2
   ·exact z9e xs h.2 r hr' s hs' he
structure z9k (b:Nat) (o:Obj) (w w':World):Prop where
 os:w'.os=w.os
 tape:w'.tape=w.tape
 output:w'.output=w.output
 size:w'.heap.size=w.heap.size
 at_:w'.heap[b]?=some o
 block:∀ k,k≠b→w'.heap[k]?=w.heap[k]?
def mixAll (P:Program) (w0:World) (af:Act):List Oper→List Value→Prop
 | o::os,v::vs=>(match o.op with | .alloc _=>True | .store ..=>True | _=>∀ w,Below w0.heap.size w0 w→o.quietAt P af (fun w'=>Below w.heap.size w w') w v)∧mixAll P w0 af os vs
 | [],[]=>True
 | _,_=>False
theorem mixAll_at {P:Program} {w0:World} {af:Act}:∀ (l:List Oper) (vs:List Value) (i:Nat) (o:Oper),mixAll P w0 af l vs→l[i]?=some o→
  ∃ v,vs[i]?=some v∧(match o.op with | .alloc _=>True | .store ..=>True | _=>∀ w,Below w0.heap.size w0 w→o.quietAt P af (fun w'=>Below w.heap.size w w') w v)
 | [],_,_,_,_,h=>by simp at h
 | _::_,[],_,_,h,_=>by simp[mixAll] at h
 | o::os,v::vs,0,o',h,hi=>by
  simp only[List.getElem?_cons_zero,Option.some.injEq] at hi
  subst hi
  exact⟨v,rfl,h.1⟩
 | o::os,v::vs,i+1,o',h,hi=>by
  simp only[List.getElem?_cons_succ] at hi ⊢
  exact mixAll_at os vs i o' h.2 hi
structure z5g (ex:List Nat) (l:List Oper) (als:List Al) (w0:World) (a0 af:Act) (listed:Array Bool) (a:Act) (w:World):Prop where
 size:l.length≤listed.size
 tsize:a.tmps.size=a0.tmps.size
 defs:a.defers=a0.defers
 below:Below w0.heap.size w0 w
 slots:∀ q,(∀ r∈als,r.p≠q)→q∉ex→(∀ m om,l[m]?=some om→listed.getD m true=false→om.dst≠some q)→a.tmps[q]?=af.tmps[q]?
 blocks:∀ r∈als,listed.getD r.i false=true→∃ b,a.tmps[r.p]?=some (.pointer (some ⟨b,0,none⟩))∧w0.heap.size≤b∧b<w.heap.size∧w.heap[b]?=some (.cells (if listed.getD r.k false then r.f else r.z) r.t)
 order:∀ r∈als,listed.getD r.k false=true→listed.getD r.i false=true
 apart:∀ r∈als,∀ s∈als,r.p≠s.p→listed.getD r.i false=true→listed.getD s.i false=true→a.tmps[r.p]?≠a.tmps[s.p]?
theorem waits_of {o:Oper} {m:Nat} (h:waitsB o m=true) {listed:Array Bool} (hall:∀ e∈o.after,Region.binds .any e=true→listed.getD e.on false=true):listed.getD m false=true:=by
 obtain⟨e,he,hb⟩:=Array.any_eq_true'.1 h
 simp only[Bool.and_eq_true,beq_iff_eq] at hb
 rw[← hb.2];exact hall e he hb.1
theorem false_of_true {listed:Array Bool} {m:Nat} (h:listed.getD m false=true):listed.getD m true=true:=by
 rcases Nat.lt_or_ge m listed.size with h' | h'
 ·simp[h'] at h ⊢;exact h
 ·simp[Array.getElem?_eq_none h']
theorem reads_of {l:List Oper} {o:Oper} {q:Nat} (h:readsB l o q=true) {listed:Array Bool} (hall:∀ e∈o.after,Region.binds .any e=true→listed.getD e.on false=true)
  (m:Nat) (om:Oper) (hm:l[m]?=some om) (hun:listed.getD m true=false):om.dst≠some q:=by
 intro hd
 have hlt:m<l.length:=(List.getElem?_eq_some_iff.1 hm).1
 have:=List.all_eq_true.1 h m (List.mem_range.2 hlt)
 simp only[hm,hd,bne_self_eq_false,Bool.false_or] at this
 rw[false_of_true (waits_of this hall)] at hun
 cases hun
theorem z1g {listed:Array Bool} {i j:Nat} (h:(listed.setIfInBounds i true).getD j false=true):j=i∨listed.getD j false=true:=by
 by_cases e:i=j
 ·exact Or.inl e.symm
 ·rw[getD_set_ne false e] at h;exact Or.inr h
theorem getD_set_self {listed:Array Bool} {i:Nat} (h:listed.getD i true=false):(listed.setIfInBounds i true).getD i false=true:=by
 rcases Nat.lt_or_ge i listed.size with h' | h'
 ·simp[h']
 ·simp[Array.getElem?_eq_none h'] at h
theorem z5s {listed:Array Bool} {i:Nat} (h:listed.getD i true=false):listed.getD i false=false:=by
 rcases Nat.lt_or_ge i listed.size with h' | h'
 ·simp[h'] at h ⊢;exact h
 ·simp[Array.getElem?_eq_none h'] at h
theorem unl_old {listed:Array Bool} {i m:Nat} (hmi:m≠i) (h:listed.getD m true=false):(listed.setIfInBounds i true).getD m true=false:=by
 rw[getD_set_ne true (Ne.symm hmi)];exact h
section
variable {ex:List Nat} {l:List Oper} {als:List Al} {vs:List Value} {w0:World} {a0 af:Act} {listed:Array Bool} {a:Act} {w:World}
theorem inv_plain (I:z5g ex l als w0 a0 af listed a w) (haf:af=lay l vs a0) (hds:dstsB l=true) {i:Nat} {o:Oper} {v:Value} (ho:l[i]?=some o) (hv:vs[i]?=some v) (hun:listed.getD i true=false)
  (hi:∀ r∈als,r.i≠i∧r.k≠i∧o.dst≠some r.p) {w':World} (hw:Below w.heap.size w w'):z5g ex l als w0 a0 af (listed.setIfInBounds i true) (a.put o.dst v) w':=by
 have hbs:Below w0.heap.size w0 w':=I.below.trans (hw.mono I.below.size)
 refine⟨by simpa using I.size,by rw[z6f];exact I.tsize,by rw[z6l];exact I.defs,hbs,?_,?_,?_,?_⟩
 ·intro q hq hex hm
  by_cases e:o.dst=some q
  ·by_cases hlt:q<a0.tmps.size
   ·rw[e,z6g (by rw[I.tsize];exact hlt),haf,lay_at l vs a0 i o v hds ho hv e hlt]
   ·rw[Array.getElem?_eq_none (by rw[z6f,I.tsize];omega),Array.getElem?_eq_none (by rw[haf,(z6h l vs a0).1];omega)]
  ·rw[z1z e]
   refine I.slots q hq hex fun m om h1 h2=>?_
   by_cases hmi:m=i
   ·subst hmi;rw[ho] at h1;cases h1;exact e
   ·exact hm m om h1 (unl_old hmi h2)
 ·intro r hr hl
  obtain⟨h1,h2,h3⟩:=hi r hr
  obtain⟨b,b1,b2,b3,b4⟩:=I.blocks r hr ((z1g hl).resolve_left h1)
  refine⟨b,by rw[z1z h3];exact b1,b2,Nat.lt_of_lt_of_le b3 hw.size,?_⟩
  rw[hw.block b b3,b4,getD_set_ne false (Ne.symm h2)]
 ·intro r hr hl
  obtain⟨h1,h2,_⟩:=hi r hr
  exact getD_set_true (I.order r hr ((z1g hl).resolve_left h2))
 ·intro r hr s hs hne hl hl'
  rw[z1z (hi r hr).2.2,z1z (hi s hs).2.2]
  exact I.apart r hr s hs hne ((z1g hl).resolve_left (hi r hr).1) ((z1g hl').resolve_left (hi s hs).1)
theorem inv_alloc (I:z5g ex l als w0 a0 af listed a w) (hap:apartAl als=true) {r:Al} (hr:r∈als) {o:Oper} (ho:l[r.i]?=some o) (hd:o.dst=some r.p) (hun:listed.getD r.i true=false) (hne:∀ s∈als,s.k≠r.i)
  (hp:∀ r∈als,r.p<a0.tmps.size):z5g ex l als w0 a0 af (listed.setIfInBounds r.i true) (a.put o.dst (.pointer (some ⟨w.heap.size,0,none⟩))) (w.alloc (.cells r.z r.t)):=by
 have hbs:Below w0.heap.size w0 (w.alloc (.cells r.z r.t)):=I.below.alloc I.below.size _
 have same:∀ s∈als,s.i=r.i→s=r:=fun s hs e=>z9e als hap s hs r hr (Or.inl e)
 have samep:∀ s∈als,s.p=r.p→s=r:=fun s hs e=>z9e als hap s hs r hr (Or.inr (Or.inl e))
 rw[hd]
 have pr:(a.put (some r.p) (.pointer (some ⟨w.heap.size,0,none⟩))).tmps[r.p]?=some (.pointer (some ⟨w.heap.size,0,none⟩)):=z6g (by rw[I.tsize];exact hp r hr)
 have po:∀ s∈als,s≠r→(a.put (some r.p) (.pointer (some ⟨w.heap.size,0,none⟩))).tmps[s.p]?=a.tmps[s.p]?:=fun s hs e=>z1z fun h=>e (samep s hs (Option.some.inj h).symm)
 refine⟨by simpa using I.size,by rw[z6f];exact I.tsize,by rw[z6l];exact I.defs,hbs,?_,?_,?_,?_⟩
 ·intro q hq hex hm
  rw[z1z (fun e=>hq r hr (Option.some.inj e))]
  refine I.slots q hq hex fun m om h1 h2=>?_
  by_cases hmi:m=r.i
  ·subst hmi;rw[ho] at h1;cases h1;rw[hd];exact fun e=>hq r hr (Option.some.inj e)
  ·exact hm m om h1 (unl_old hmi h2)
 ·intro s hs hl
  by_cases e:s=r
  ·subst e
   refine⟨w.heap.size,pr,I.below.size,by simp,?_⟩
   have hk:(listed.setIfInBounds s.i true).getD s.k false=false:=by
    rw[getD_set_ne false (Ne.symm (hne s hs))]
    cases hh:listed.getD s.k false with
    | false=>rfl
    | true=>have:=I.order s hs hh;rw[z5s hun] at this;cases this
   rw[hk]
   show (w.heap.push _)[w.heap.size]?=_
   simp
  ·obtain⟨b,b1,b2,b3,b4⟩:=I.blocks s hs ((z1g hl).resolve_left (fun h=>e (same s hs h)))
   refine⟨b,by rw[po s hs e];exact b1,b2,by simp;omega,?_⟩
   rw[Below.heap_alloc _ _ _ b3,b4,getD_set_ne false (Ne.symm (hne s hs))]
 ·intro s hs hl
  rw[getD_set_ne false (Ne.symm (hne s hs))] at hl
  exact getD_set_true (I.order s hs hl)
 ·intro x hx y hy hne' hl hl'
  by_cases ex:x=r
  ·by_cases ey:y=r
   ·subst ex ey;exact absurd rfl hne'
   ·subst ex
    obtain⟨b,b1,b2,b3,b4⟩:=I.blocks y hy ((z1g hl').resolve_left (fun h=>ey (same y hy h)))
    rw[pr,po y hy ey,b1]
    intro h;injection h with h;injection h with h;injection h with h;injection h with h;omega
  ·by_cases ey:y=r
   ·subst ey
    obtain⟨b,b1,b2,b3,b4⟩:=I.blocks x hx ((z1g hl).resolve_left (fun h=>ex (same x hx h)))
    rw[pr,po x hx ex,b1]
    intro h;injection h with h;injection h with h;injection h with h;injection h with h;omega
   ·rw[po x hx ex,po y hy ey]
    exact I.apart x hx y hy hne' ((z1g hl).resolve_left (fun h=>ex (same x hx h))) ((z1g hl').resolve_left (fun h=>ey (same y hy h)))
theorem inv_store (I:z5g ex l als w0 a0 af listed a w) (hap:apartAl als=true) {r:Al} (hr:r∈als) {o:Oper} (ho:l[r.k]?=some o) (hd:o.dst=none) (hun:listed.getD r.k true=false) (hli:listed.getD r.i false=true) (hne:∀ s∈als,s.i≠r.k)
  {b:Nat} (hb:a.tmps[r.p]?=some (.pointer (some ⟨b,0,none⟩))) (hb0:w0.heap.size≤b) (hb1:b<w.heap.size) {w':World} (ht:z9k b (.cells r.f r.t) w w') :
  z5g ex l als w0 a0 af (listed.setIfInBounds r.k true) (a.put o.dst undef) w':=by
 have same:∀ s∈als,s.k=r.k→s=r:=fun s hs e=>z9e als hap s hs r hr (Or.inr (Or.inr e))
 have samep:∀ s∈als,s.p=r.p→s=r:=fun s hs e=>z9e als hap s hs r hr (Or.inr (Or.inl e))
 have hbs:Below w0.heap.size w0 w':=I.below.trans ⟨ht.os,ht.tape,ht.output,by rw[ht.size];exact Nat.le_refl _,fun k hk=>ht.block k (by omega)⟩
 rw[hd]
 show z5g ex l als w0 a0 af (listed.setIfInBounds r.k true) a w'
 refine⟨by simpa using I.size,I.tsize,I.defs,hbs,?_,?_,?_,?_⟩
 ·intro q hq hex hm
  refine I.slots q hq hex fun m om h1 h2=>?_
  by_cases hmi:m=r.k
  ·subst hmi;rw[ho] at h1;cases h1;rw[hd];exact fun e=>by cases e
  ·exact hm m om h1 (unl_old hmi h2)
 ·intro s hs hl
  have hl0:=(z1g hl).resolve_left (hne s hs)
  obtain⟨c,c1,c2,c3,c4⟩:=I.blocks s hs hl0
  by_cases e:s=r
  ·subst e
   rw[hb] at c1
   injection c1 with h;injection h with h;injection h with h;injection h with h
   subst h
   exact⟨b,hb,c2,by rw[ht.size];exact c3,by rw[getD_set_self hun,ht.at_];rfl⟩
  ·have hcb:c≠b:=by
    intro h
    subst h
    exact I.apart s hs r hr (fun h=>e (samep s hs h)) hl0 hli (by rw[c1,hb])
   refine⟨c,c1,c2,by rw[ht.size];exact c3,?_⟩
   rw[ht.block c hcb,c4,getD_set_ne false (fun h=>e (same s hs h.symm))]
 ·intro s hs hl
  rcases z1g hl with h | h
  ·rw[same s hs h];exact getD_set_true hli
  ·exact getD_set_true (I.order s hs h)
 ·intro x hx y hy hne' hl hl'
  exact I.apart x hx y hy hne' ((z1g hl).resolve_left (hne x hx)) ((z1g hl').resolve_left (hne y hy))
theorem count_zero {listed:Array Bool} (h:listed.count false≤0) (m:Nat) (hm:m<listed.size):listed.getD m false=true:=by
 have h0:listed.count false=0:=by omega
 have h1:=Array.count_eq_zero.1 h0
 have h2:listed[m]≠false:=fun e=>h1 (by rw[← e];exact Array.getElem_mem hm)
 simp[hm]
 simpa using h2
theorem count_set {listed:Array Bool} {i:Nat} (h:listed.getD i true=false) {n:Nat} (hc:listed.count false≤n+1):(listed.setIfInBounds i true).count false≤n:=by
 rcases Nat.lt_or_ge i listed.size with h' | h'
 ·have hi:listed[i]=false:=by simpa [h'] using h
  have hpos:0<listed.count false:=Array.count_pos_iff.2 (by rw[← hi];exact Array.getElem_mem h')
  rw[Array.setIfInBounds,dif_pos h',Array.count_set h',hi]
  simp
  omega
 ·simp[Array.getElem?_eq_none h'] at h
theorem all_listed {ops:Array Oper} (hops:∀ m,m<l.length→ops[m]?=l[m]?) (hB:mixB l als=true) (hsz:l.length≤listed.size) (h0:Region.ready .any ops listed=[]):∀ m,m<l.length→listed.getD m false=true:=by
 intro m
 induction m using Nat.strongRecOn with
 | _ m ih=>
  intro hm
  cases hh:listed.getD m false with
  | true=>rfl
  | false=>
   exfalso
   have hu:listed.getD m true=false:=by
    have:m<listed.size:=by omega
    simp[this] at hh ⊢;exact hh
   simp only[mixB,Bool.and_eq_true] at hB
   have h1:=List.all_eq_true.1 hB.2 m (List.mem_range.2 hm)
   have ho:l[m]?=some l[m]:=List.getElem?_eq_getElem hm
   simp only[ho,Bool.and_eq_true] at h1
   have:m∈Region.ready .any ops listed:=by
    refine mem_ready.2 ⟨hu,l[m],by rw[hops m hm,ho],fun e he hb=>?_⟩
    have h2:=Array.all_eq_true_iff_forall_mem.1 h1.1 e he
    simp only[hb,Bool.not_true,Bool.false_or,decide_eq_true_eq] at h2
    exact ih e.on h2 (by omega)
   rw[h0] at this
   cases this
theorem mix_step {P:Program} {Q:Exit→Act→World→Prop} {ops:Array Oper} (hops:∀ m,m<l.length→ops[m]?=l[m]?) (haf:af=lay l vs a0) (hB:mixB l als=true) (hp:∀ r∈als,r.p<a0.tmps.size) (hpl:mixAll P w0 af l vs)
  (hz:∀ r∈als,∀ w:World,(Instr.alloc r.t true (.tuple #[])).run P w=.ok (.pointer (some ⟨w.heap.size,0,none⟩)) (w.alloc (.cells r.z r.t)))
  (hs:∀ r∈als,∀ (w:World) (b:Nat),w.heap[b]?=some (.cells r.z r.t)→∃ w',(Instr.storeAt r.t (.pointer (some ⟨b,0,none⟩)) (af.eval (.tmp r.q))).run P w=.ok () w'∧z9k b (.cells r.f r.t) w w')
  (I:z5g [] l als w0 a0 af listed a w) {i:Nat} (hi:i∈Region.ready .any ops listed) (hlt:i<l.length) {K:Act→World→Prop} (ih:∀ a' w',z5g [] l als w0 a0 af (listed.setIfInBounds i true) a' w'→K a' w') :
  wpOp P ops Q i K a w:=by
 obtain⟨hun,o,ho,hall⟩:=mem_ready.1 hi
 have hol:l[i]?=some o:=by rw[← hops i hlt];exact ho
 have hB0:=hB
 simp only[mixB,Bool.and_eq_true] at hB0
 obtain⟨⟨⟨⟨⟨hsel,hgu⟩,hds⟩,hap⟩,hal⟩,hcl⟩:=hB0
 have hguard:o.guard=none:=by
  have:=List.all_eq_true.1 hgu o (List.mem_of_getElem? hol)
  simpa using this
 have hclass:=List.all_eq_true.1 hcl i (List.mem_range.2 hlt)
 simp only[hol,Bool.and_eq_true] at hclass
 have hkinds:∀ r∈als,(∃ o',l[r.i]?=some o'∧r.allocs o'=true)∧(∃ o',l[r.k]?=some o'∧r.stores l o'=true)∧∀ s∈als,r.q≠s.p:=by
  intro r hr
  have:=List.all_eq_true.1 hal r hr
  simp only[Bool.and_eq_true] at this
  obtain⟨⟨h1,h2⟩,h3⟩:=this
  refine⟨?_,?_,fun s hs=>by simpa using List.all_eq_true.1 h3 s hs⟩
  ·cases h:l[r.i]? with
   | none=>rw[h] at h1;cases h1
   | some o'=>rw[h] at h1;exact⟨o',rfl,h1⟩
  ·cases h:l[r.k]? with
   | none=>rw[h] at h2;cases h2
   | some o'=>rw[h] at h2;exact⟨o',rfl,h2⟩
 have hik:∀ r∈als,∀ s∈als,r.i≠s.k:=by
  intro r hr s hs e
  obtain⟨o1,h1,k1⟩:=(hkinds r hr).1
  obtain⟨o2,h2,k2⟩:=(hkinds s hs).2.1
  rw[e,h2] at h1
  cases h1
  simp only[Al.allocs,Bool.and_eq_true] at k1
  simp only[Al.stores,Bool.and_eq_true] at k2
  have e1:=k1.1
  have e2:=k2.1.1.1
  split at e1
  ·rename_i h;rw[h] at e2;cases e2
  ·cases e1
 unfold wpOp
 rw[ho]
 have hwant:Region.wanted o (yielded ops a.tmps)=true:=by simp[Region.wanted,hguard]
 simp only[hwant,if_true]
 refine Or.inl ?_
 unfold Oper.wp
 by_cases hA:∃ r∈als,r.i=i
 ·obtain⟨r,hr,rfl⟩:=hA
  obtain⟨o',ho',hk⟩:=(hkinds r hr).1
  rw[hol] at ho'
  cases ho'
  simp only[Al.allocs,Bool.and_eq_true,beq_iff_eq] at hk
  have hop:o.op=.alloc r.t:=by
   have:=hk.1
   split at this
   ·rename_i t h;rw[h];congr 1;simpa using this
   ·cases this
  have hrun:(execOp a.eval o).run P w=.ok (.value (.pointer (some ⟨w.heap.size,0,none⟩))) (w.alloc (.cells r.z r.t)):=by
   unfold execOp
   rw[hop]
   simp[hz r hr w]
  rw[hrun]
  exact ih _ _ (inv_alloc I hap hr hol hk.2 hun (fun s hs e=>hik r hr s hs e.symm) hp)
 ·by_cases hS:∃ r∈als,r.k=i
  ·obtain⟨r,hr,rfl⟩:=hS
   obtain⟨o',ho',hk⟩:=(hkinds r hr).2.1
   rw[hol] at ho'
   cases ho'
   simp only[Al.stores,Bool.and_eq_true,beq_iff_eq] at hk
   obtain⟨⟨⟨hk1,hd⟩,hwi⟩,hrd⟩:=hk
   have hop:o.op=.store r.t (.tmp r.p) (.tmp r.q):=by
    split at hk1
    ·rename_i t p q h
     simp only[Bool.and_eq_true,beq_iff_eq] at hk1
     rw[h,hk1.1.1,hk1.1.2,hk1.2]
    ·cases hk1
   have hli:listed.getD r.i false=true:=waits_of hwi hall
   have hk0:listed.getD r.k false=false:=z5s hun
   obtain⟨b,b1,b2,b3,b4⟩:=I.blocks r hr hli
   rw[hk0] at b4
   have eq:a.eval (.tmp r.q)=af.eval (.tmp r.q):=by
    have:=I.slots r.q (fun s hs e=>(hkinds r hr).2.2 s hs e.symm) (by simp) (fun m om h1 h2=>reads_of hrd hall m om h1 h2)
    simp only[Act.eval,Array.getD_eq_getD_getElem?,this]
   have ep:a.eval (.tmp r.p)=.pointer (some ⟨b,0,none⟩):=by
    simp only[Act.eval,Array.getD_eq_getD_getElem?,b1,Option.getD_some]
   obtain⟨w',hw',ht⟩:=hs r hr w b b4
   have hrun:(execOp a.eval o).run P w=.ok .skip w':=by
    unfold execOp
    rw[hop]
    simp[ep,eq,hw']
   rw[hrun]
   exact ih _ _ (inv_store I hap hr hol hd hun hli (fun s hs e=>hik s hs r hr e) b1 b2 b3 ht)
  ·have hpb:plainB l als o=true:=by
    rcases hclass.2 with h
    simp only[Bool.or_eq_true] at h
    rcases h with (h | h) | h
    ·obtain⟨r,hr,e⟩:=List.any_eq_true.1 h
     exact absurd ⟨r,hr,by simpa using e⟩ hA
    ·obtain⟨r,hr,e⟩:=List.any_eq_true.1 h
     exact absurd ⟨r,hr,by simpa using e⟩ hS
    ·exact h
   simp only[plainB,Bool.and_eq_true] at hpb
   obtain⟨⟨hk,hnp⟩,hrd⟩:=hpb
   obtain⟨v,hv,hq⟩:=mixAll_at l vs i o hpl hol
   have hq':∀ w,Below w0.heap.size w0 w→o.quietAt P af (fun w'=>Below w.heap.size w w') w v:=by
    split at hq
    ·rename_i h;rw[h] at hk;cases hk
    ·rename_i h;rw[h] at hk;cases hk
    ·exact hq
   have hnp':∀ r∈als,o.dst≠some r.p∧r.p∉o.looksAt l.toArray:=by
    intro r hr
    have:=List.all_eq_true.1 hnp r hr
    simpa using this
   have heq:execOp a.eval o=execOp af.eval o:=by
    refine execOp_congr o (fun cs b=>Region.noSelect_spec hsel i o cs b (by simpa using hol)) fun x hx=>?_
    cases x with
    | tmp t=>
     have hmem:t∈o.looksAt l.toArray:=List.mem_append_left _ (List.mem_filterMap.2 ⟨.tmp t,by simpa using hx,rfl⟩)
     have h1:=List.all_eq_true.1 hrd t hmem
     have:=I.slots t (fun r hr e=>(hnp' r hr).2 (e ▸ hmem)) (by simp) (fun m om h2 h3=>reads_of h1 hall m om h2 h3)
     simp only[Act.eval,Array.getD_eq_getD_getElem?,this]
    | _=>rfl
   have hgo:=hq' w I.below
   unfold Oper.quietAt at hgo
   rw[heq]
   have hnext:∀ w',Below w.heap.size w w'→K (a.put o.dst v) w':=fun w' hw'=>
    ih _ _ (inv_plain I haf hds hol hv hun (fun r hr=>⟨fun e=>hA ⟨r,hr,e⟩,fun e=>hS ⟨r,hr,e⟩,(hnp' r hr).1⟩) hw')
   generalize (execOp af.eval o).run P w=res at hgo
   cases res with
   | ok n w'=>
    cases n <;> simp only[Oper.quietUpon] at hgo <;> simp only[Oper.upon]
    case value u=>
     obtain⟨rfl,rfl⟩:=hgo
     exact hnext _ (Below.refl _ _)
    case skip=>
     obtain⟨rfl,rfl⟩:=hgo
     exact hnext _ (Below.refl _ _)
    case enter f args=>
     obtain⟨rfl,hcall⟩:=hgo
     exact hcall.mono fun e w'' ⟨he,hw''⟩=>by subst he;exact hnext _ hw''
   | halt x w'=>simp only[Oper.quietUpon] at hgo
def z3o (β:Nat→Nat):List Al→Act→Act
 | [],a=>a
 | r::rs,a=>z3o β rs (a.put (some r.p) (.pointer (some ⟨β r.p,0,none⟩)))
theorem putAl_size (β:Nat→Nat):∀ (als:List Al) (a:Act),(z3o β als a).tmps.size=a.tmps.size∧(z3o β als a).defers=a.defers
 | [],_=>⟨rfl,rfl⟩
 | r::rs,a=>by
  have h:=putAl_size β rs (a.put (some r.p) (.pointer (some ⟨β r.p,0,none⟩)))
  rw[z6f,z6l] at h
  exact h
theorem z7q (β:Nat→Nat) (q:Nat):∀ (als:List Al) (a:Act),(∀ r∈als,r.p≠q)→(z3o β als a).tmps[q]?=a.tmps[q]?
 | [],_,_=>rfl
 | r::rs,a,h=>by
  show (z3o β rs _).tmps[q]?=_
  rw[z7q β q rs _ (fun s hs=>h s (List.mem_cons_of_mem _ hs)),z1z (fun e=>h r List.mem_cons_self (Option.some.inj e))]
theorem putAl_at (β:Nat→Nat) (q:Nat):∀ (als:List Al) (a:Act),(∃ r∈als,r.p=q)→q<a.tmps.size→(z3o β als a).tmps[q]?=some (.pointer (some ⟨β q,0,none⟩))
 | [],_,h,_=>by obtain⟨r,hr,_⟩:=h;cases hr
 | r::rs,a,h,hq=>by
  show (z3o β rs _).tmps[q]?=_
  by_cases h':∃ s∈rs,s.p=q
  ·exact putAl_at β q rs _ h' (by rw[z6f];exact hq)
  ·obtain⟨s,hs,e⟩:=h
   rcases List.mem_cons.1 hs with rfl | hs
   ·rw[z7q β q rs _ (fun t ht e=>h' ⟨t,ht,e⟩),e,z6g hq]
   ·exact absurd ⟨s,hs,e⟩ h'
theorem mix_final (hB:mixB l als=true) (hp:∀ r∈als,r.p<a0.tmps.size) (I:z5g [] l als w0 a0 (lay l vs a0) listed a w) (hall:∀ m,m<l.length→listed.getD m false=true) :
  ∃ β:Nat→Nat,a=z3o β als (lay l vs a0)∧Below w0.heap.size w0 w∧(∀ r∈als,w0.heap.size≤β r.p∧β r.p<w.heap.size∧w.heap[β r.p]?=some (.cells r.f r.t))∧(∀ r∈als,∀ s∈als,r.p≠s.p→β r.p≠β s.p):=by
 have hidx:∀ r∈als,r.i<l.length∧r.k<l.length:=by
  intro r hr
  have hB0:=hB
  simp only[mixB,Bool.and_eq_true] at hB0
  have:=List.all_eq_true.1 hB0.1.2 r hr
  simp only[Bool.and_eq_true] at this
  obtain⟨⟨h1,h2⟩,_⟩:=this
  constructor
  ·cases h:l[r.i]? with
   | none=>rw[h] at h1;cases h1
   | some o=>exact (List.getElem?_eq_some_iff.1 h).1
  ·cases h:l[r.k]? with
   | none=>rw[h] at h2;cases h2
   | some o=>exact (List.getElem?_eq_some_iff.1 h).1
 have hex:∃ β:Nat→Nat,∀ r∈als,a.tmps[r.p]?=some (.pointer (some ⟨β r.p,0,none⟩)):=by
  refine⟨fun q=>match a.tmps[q]? with | some (.pointer (some b))=>b.block | _=>0,fun r hr=>?_⟩
  obtain⟨b,b1,_⟩:=I.blocks r hr (hall _ (hidx r hr).1)
  simp only[b1]
 obtain⟨β,hβ⟩:=hex
 refine⟨β,?_,I.below,fun r hr=>?_,fun r hr s hs hne e=>?_⟩
 ·have h1:a.tmps=(z3o β als (lay l vs a0)).tmps:=by
   apply Array.ext_getElem?
   intro q
   by_cases hq:∃ r∈als,r.p=q
   ·have hq':=hq
    obtain⟨r,hr,rfl⟩:=hq
    rw[hβ r hr,putAl_at β r.p als _ hq' (by rw[(z6h l vs a0).1];exact hp r hr)]
   ·rw[z7q β q als _ (fun r hr e=>hq ⟨r,hr,e⟩)]
    refine I.slots q (fun r hr e=>hq ⟨r,hr,e⟩) (by simp) fun m om h2 h3=>?_
    have:=hall m (List.getElem?_eq_some_iff.1 h2).1
    rw[z5s h3] at this
    cases this
  have h2:a.defers=(z3o β als (lay l vs a0)).defers:=by rw[I.defs,(putAl_size β als _).2,(z6h l vs a0).2]
  cases a
  generalize z3o β als (lay l vs a0)=c at *
  cases c
  simp only at h1 h2
  rw[h1,h2]
 ·obtain⟨b,b1,b2,b3,b4⟩:=I.blocks r hr (hall _ (hidx r hr).1)
  rw[hall _ (hidx r hr).2] at b4
  rw[hβ r hr] at b1
  injection b1 with h;injection h with h;injection h with h;injection h with h
  rw[h]
  exact⟨b2,b3,b4⟩
 ·refine I.apart r hr s hs hne (hall _ (hidx r hr).1) (hall _ (hidx s hs).1) ?_
  rw[hβ r hr,hβ s hs,e]
theorem mix_start (N:Nat) (hN:l.length≤N) (d:Nat):z5g [] l als w0 a0 (lay l vs a0) (Array.replicate N false) a0 { w0 with drawn:=d }:=by
 refine⟨by simpa using hN,rfl,rfl,⟨rfl,rfl,rfl,Nat.le_refl _,fun _ _=>rfl⟩,?_,?_,?_,?_⟩
 ·intro q hq _ hm
  rw[lay_other q l vs a0]
  intro o ho
  obtain⟨m,hm1,hm2⟩:=List.getElem_of_mem ho
  have:m<N:=by omega
  exact hm m o (by rw[List.getElem?_eq_getElem hm1,hm2]) (by simp[this])
 ·intro r hr h;rw[getD_replicate_false] at h;cases h
 ·intro r hr h;rw[getD_replicate_false] at h;cases h
 ·intro r hr s hs _ h;rw[getD_replicate_false] at h;cases h
def z5n (n g:Nat):Array Bool:=(List.replicate n true++List.replicate g false).toArray
def tailB (l:List Oper) (n:Nat):Bool:=
 decide (n<l.length)&&Region.sinkB .any l.toArray n&&Region.chainB .any l.toArray n&&Region.seqB .any l.toArray (l.length-n) n (z5n n (l.length-n))
theorem head_is {n N:Nat} (hn:n≤N) (hsz:listed.size=N) (hall:∀ m,m<n→listed.getD m false=true) (ht:∀ t,n≤t→t<N→listed.getD t true=false):listed=z5n n (N-n):=by
 apply Array.ext
 ·simp[z5n];omega
 ·intro i h1 h2
  by_cases hi:i<n
  ·have:=hall i hi
   simp[h1] at this
   rw[this]
   simp[z5n,hi]
  ·have:=ht i (by omega) (by omega)
   simp[h1] at this
   rw[this]
   simp[z5n,List.getElem_append,hi]
theorem mix_tail_any {P:Program} {Q:Exit→Act→World→Prop} {L:List Oper} {n:Nat} (hl:l=L.take n) (haf:af=lay l vs a0) (hB:mixB l als=true) (hT:tailB L n=true) (hp:∀ r∈als,r.p<a0.tmps.size) (hpl:mixAll P w0 af l vs)
  (hz:∀ r∈als,∀ w:World,(Instr.alloc r.t true (.tuple #[])).run P w=.ok (.pointer (some ⟨w.heap.size,0,none⟩)) (w.alloc (.cells r.z r.t)))
  (hs:∀ r∈als,∀ (w:World) (b:Nat),w.heap[b]?=some (.cells r.z r.t)→∃ w',(Instr.storeAt r.t (.pointer (some ⟨b,0,none⟩)) (af.eval (.tmp r.q))).run P w=.ok () w'∧z9k b (.cells r.f r.t) w w')
  (hQ:∀ a w listed,z5g [] l als w0 a0 af listed a w→(∀ m,m<l.length→listed.getD m false=true)→wpList P L.toArray Q (L.drop n) a w) :
  ∀ (fuel:Nat) (listed:Array Bool) (a:Act) (w:World),listed.count false=fuel→HeadInv .any L.toArray n listed→z5g [] l als w0 a0 af listed a w→wpAny P .any L.toArray Q fuel listed a w:=by
 simp only[tailB,Bool.and_eq_true,decide_eq_true_eq] at hT
 obtain⟨⟨⟨hn,hsk⟩,hch⟩,hsq⟩:=hT
 have hll:l.length=n:=by rw[hl];simp;omega
 have hops:∀ m,m<l.length→L.toArray[m]?=l[m]?:=fun m hm=>by rw[hl];simp;rw[List.getElem?_take];simp[show m<n by omega]
 intro fuel
 induction fuel with
 | zero=>
  intro listed a w hc H I
  exfalso
  have:=count_zero (listed:=listed) (by omega) n (by rw[H.size];simpa using hn)
  have h2:=H.tail n (Nat.le_refl _) (by simpa using hn)
  rw[z5s h2] at this
  cases this
 | succ fuel ih=>
  intro listed a w hc H I
  by_cases hall:∀ m,m<l.length→listed.getD m false=true
  ·have hL0:listed=z5n n (L.length-n):=head_is (Nat.le_of_lt hn) (by rw[H.size];simp) (fun m hm=>hall m (by omega)) (fun t h1 h2=>H.tail t h1 (by simpa using h2))
   have hlen:fuel+1=(L.drop n).length:=by
    rw[← hc,hL0]
    simp[z5n,List.count_append,List.count_replicate]
   rw[hlen]
   refine wpAny_of_seq (md:=.any) (L.drop n) n listed a w (fun j=>by simp[List.getElem?_drop]) ?_ (hQ a w listed I hall)
   rw[List.length_drop,hL0]
   exact hsq
  ·obtain⟨m,hm⟩:=Classical.not_forall.1 hall
   obtain⟨hm1,hm2⟩:=Classical.not_imp.1 hm
   have hm3:listed.getD m true=false:=by
    have:m<listed.size:=Nat.lt_of_lt_of_le hm1 I.size
    simp[this] at hm2 ⊢;exact hm2
   refine⟨fun h0=>absurd (all_listed hops hB I.size h0 m hm1) hm2,fun i hi=>?_⟩
   have hin:i<n:=by
    rcases Nat.lt_or_ge i n with h | h
    ·exact h
    ·exact absurd hi (tail_waits hsk hch (by simpa using hn) H (n-m) m rfl (by omega) hm3 i h)
   have hun:=(mem_ready.1 hi).1
   refine mix_step hops haf hB hp hpl hz hs I hi (by omega) fun a' w' I'=>ih _ _ _ ?_ (H.set hi hin) I'
   rcases Nat.lt_or_ge i listed.size with h' | h'
   ·have hi':listed[i]=false:=by simpa [h'] using hun
    rw[Array.setIfInBounds,dif_pos h',Array.count_set h',hi']
    simp
    omega
   ·simp[Array.getElem?_eq_none h'] at hun
theorem z1b {P:Program} {Q:Exit→Act→World→Prop} {id:Nat} {L:List Oper} (n:Nat) (als:List Al) (vs:List Value) (hm:P.follows .mixedOrders=true) (hB:mixB (L.take n) als=true) (hT:tailB L n=true) (hp:∀ r∈als,r.p<a0.tmps.size)
  (hpl:mixAll P w0 (lay (L.take n) vs a0) (L.take n) vs)
  (hz:∀ r∈als,∀ w:World,(Instr.alloc r.t true (.tuple #[])).run P w=.ok (.pointer (some ⟨w.heap.size,0,none⟩)) (w.alloc (.cells r.z r.t)))
  (hs:∀ r∈als,∀ (w:World) (b:Nat),w.heap[b]?=some (.cells r.z r.t)→∃ w',(Instr.storeAt r.t (.pointer (some ⟨b,0,none⟩)) ((lay (L.take n) vs a0).eval (.tmp r.q))).run P w=.ok () w'∧z9k b (.cells r.f r.t) w w')
  (hQ:∀ (β:Nat→Nat) (w:World),Below w0.heap.size w0 w→(∀ r∈als,w0.heap.size≤β r.p∧β r.p<w.heap.size∧w.heap[β r.p]?=some (.cells r.f r.t))→(∀ r∈als,∀ s∈als,r.p≠s.p→β r.p≠β s.p)→
   wpList P L.toArray Q (L.drop n) (z3o β als (lay (L.take n) vs a0)) w):(Code.region id L.toArray true).wp P Q a0 w0:=by
 refine wp_region_any hm ?_
 refine mix_tail_any (L:=L) (n:=n) (als:=als) (vs:=vs) (w0:=w0) (a0:=a0) (af:=lay (L.take n) vs a0) rfl rfl hB hT hp hpl hz hs ?_ _ _ _ _ ?_ ?_ (mix_start _ (by simp;omega) _)
 ·intro a w listed I hall
  obtain⟨β,e,h1,h2,h3⟩:=mix_final hB hp I hall
  rw[e]
  exact hQ β w h1 h2 h3
 ·simp
 ·exact⟨by simp,fun j oj _ hl=>(by rw[getD_replicate_false] at hl;cases hl),fun t _ ht=>getD_in (by simpa using ht) (getD_replicate_false _ _)⟩
end
end
section
theorem row_below {B b:Nat} {w0 w:World} (h:Below B w0 w) (hb:B≤b) (cs:Array Value):Below B w0 (w.setRow b cs):=
 h.trans ⟨rfl,rfl,rfl,by simp,fun k hk=>setRow_other _ _ _ _ (by omega)⟩
section
variable {P:Program} {ops:Array Oper} {rest:List Oper} {o:Oper} {a:Act} {w:World} {Q:Exit→Act→World→Prop}
theorem z4p (hgd:o.guard=none) (ty:TypeId) (x y:Operand) (ho:o.op=.store ty x y) (hx:a.eval x=.pointer (some ⟨w.heap.size,0,none⟩)) (cells:Array Value) (hy:a.eval y=.agg cells) (t:TypeId) (old:Array Value)
  (hi:(P.info? ty).map (·.size)=some cells.size) (hs:old.size=cells.size) (h1:cells.all (·.oneCell')=true)
  (h:∀ w',w'.heap[w.heap.size]?=some (.cells cells t)→Below w.heap.size w w'→wpList P ops Q rest (a.put o.dst undef) w'):wpList P ops Q (o::rest) a (w.alloc (.cells old t)):=
 wpList_store_row hgd ty x y ho _ cells hx hy t old (z0g w _) hi hs h1 (h _ (setRow_heap _ _ _ _ _ _ (z0g w _)) (row_below ((Below.refl _ _).alloc (Nat.le_refl _) _) (Nat.le_refl _) _))
theorem z7d (hwd:Region.wanted o (yielded ops a.tmps)=true) (ty:TypeId) (x:Operand) (ho:o.op=.load ty x)
  (g:Nat) (hx:a.eval x=.pointer (some ⟨g,0,none⟩)) (t:TypeId) (cs:Array Value) (d:TypeDesc) (hg:w.heap[g]?=some (.cells cs t))
  (hu:P.underlying ty=some d) (hd:(match d with | .struct _ | .array _ _=>true | _=>false)=true) (hi:(P.info? ty).map (·.size)=some cs.size)
  (h:wpList P ops Q rest (a.put o.dst (.agg cs)) w):wpList P ops Q (o::rest) a w:=
 BigFrame.wpList_want hwd fun _ hK=>wp_load_row ty x ho g hx t cs _ d hg hu hd hi (hK _ _ h)
end
section
variable {P:Program} {ops:Array Oper} {Q:Exit→Act→World→Prop} {S:World→Prop} {o:Oper} {os:List Oper} {a:Act} {w:World}
end
end
section
section
variable {P:Program} {ops:Array Oper} {Q:Exit→Act→World→Prop} {md:Region.Mode} {S:World→Prop}
theorem z0n (i:Nat) (d:Option Tmp) {oi:Oper} {v:Value} {fuel:Nat} {listed:Array Bool} {a:Act} {w:World} (hi:ops[i]?=some oi) (hd:oi.dst=d)
  (hs:Region.noSelect ops=true) (hf:Region.free md ops listed i=true) (hr:(Region.ready md ops listed).contains i=true)
  (hQ:∀ c a w,Q (.panic c) (a.put oi.dst v) w→Q (.panic c) a w) (hy:YieldsIf P ops S oi v a) (hS:S w)
  (h:wpAnyH P md ops Q S fuel (listed.setIfInBounds i true) (a.put d v) w):wpAnyH P md ops Q S (fuel+1) listed a w:=by
 subst hd
 exact wpAnyH_take hi hs hf hr hQ hy hS h
theorem z5q (i:Nat) (d:Option Tmp) (f:FuncId) (args:Array Value) {o:Oper} {fuel:Nat} {listed:Array Bool} {a:Act} {w:World} (hi:ops[i]?=some o) (hd:o.dst=d)
  (hw:Region.wanted o (yielded ops a.tmps)=true) (hr:Region.ready md ops listed=[i]) (hx:(execOp a.eval o).run P w=.ok (.enter f args) w)
  (hc:Calls P f args w fun e w'=>∃ v,e=.returned v∧S w'∧(S w'→wpAnyH P md ops Q S fuel (listed.setIfInBounds i true) (a.put d v) w')):wpAnyH P md ops Q S (fuel+1) listed a w:=by
 subst hd
 refine wpAnyH_ready hr (by simp) ?_
 refine AllReadyH.cons hi (fun K hK=>?_) AllReadyH.nil
 rw[if_pos hw]
 unfold Oper.wp
 rw[hx]
 refine Calls.mono hc ?_
 rintro e w' ⟨v,rfl,h1,h2⟩
 exact hK.out _ _ h1 h2
theorem turn_at (i:Nat) (d:Option Tmp) {o:Oper} {v:Value} {fuel:Nat} {listed:Array Bool} {a:Act} {w w':World} (hi:ops[i]?=some o) (hd:o.dst=d)
  (hw:Region.wanted o (yielded ops a.tmps)=true) (hr:Region.ready md ops listed=[i]) (hx:(execOp a.eval o).run P w=.ok (.value v) w') (hS:S w')
  (h:wpAnyH P md ops Q S fuel (listed.setIfInBounds i true) (a.put d v) w'):wpAnyH P md ops Q S (fuel+1) listed a w:=by
 subst hd
 refine wpAnyH_ready hr (by simp) ?_
 refine AllReadyH.cons hi (fun K hK=>?_) AllReadyH.nil
 rw[if_pos hw]
 unfold Oper.wp
 rw[hx]
 exact hK.out _ _ hS (fun _=>h)
end
end
section
def insB (ops:Array Oper) (I:List Nat) (final:Array Bool):Nat→Array Bool→Bool
 | 0,listed=>listed==final
 | n+1,listed=>!(Region.ready .any ops listed).isEmpty&&(Region.ready .any ops listed).all fun i=>I.contains i&&insB ops I final n (listed.setIfInBounds i true)
section
variable {P:Program} {ops:Array Oper} {Q:Exit→Act→World→Prop} {S:World→Prop}
theorem z7v (I:List Nat) (final:Array Bool) (Inv:Nat→Array Bool→World→Prop) (a:Act) (m:Nat)
  (hstep:∀ i∈I,∃ o,ops[i]?=some o∧Region.wanted o (yielded ops a.tmps)=true∧o.dst=none∧∀ n listed w,Inv (n+1) listed w→S w→∃ w',(execOp a.eval o).run P w=.ok .skip w'∧S w'∧Inv n (listed.setIfInBounds i true) w')
  (hend:∀ w,Inv 0 final w→S w→wpAnyH P .any ops Q S m final a w) :
  ∀ (n:Nat) (listed:Array Bool) (w:World),insB ops I final n listed=true→Inv n listed w→S w→wpAnyH P .any ops Q S (m+n) listed a w
 | 0,listed,w,hb,hi,hS=>by
  have:listed=final:=by simpa [insB] using hb
  subst this
  exact hend w hi hS
 | n+1,listed,w,hb,hi,hS=>by
  simp only[insB,Bool.and_eq_true,List.all_eq_true] at hb
  obtain⟨h1,h2⟩:=hb
  refine wpAnyH_all rfl (by intro e;rw[e] at h1;simp at h1) fun i hi'=>?_
  obtain⟨h3,h4⟩:=h2 i hi'
  obtain⟨o,ho,hw,hd,hs⟩:=hstep i (by simpa using h3)
  obtain⟨w',hx,hS',hI'⟩:=hs n listed w hi hS
  unfold wpOp
  simp only[ho]
  rw[if_pos hw]
  refine Or.inl ?_
  unfold Oper.wp
  rw[hx]
  show S w'∧wpAnyH P .any ops Q S (m+n) (listed.setIfInBounds i true) (a.put o.dst undef) w'
  rw[hd]
  exact⟨hS',z7v I final Inv a m hstep hend n _ _ h4 hI' hS'⟩
end
end
section
structure Hd where
 i:Nat
 p:Nat
 thing:Nat→Value
 Φ:Nat→World→Prop
structure HInv (h:Hd) (als:List Al) (w0:World) (listed:Array Bool) (a:Act) (w:World):Prop where
 own:listed.getD h.i false=true→∃ g,a.tmps[h.p]?=some (h.thing g)∧w0.heap.size≤g∧g<w.heap.size∧h.Φ g w∧∀ r∈als,listed.getD r.i false=true→a.tmps[r.p]?≠some (.pointer (some ⟨g,0,none⟩))
def mixHB (l:List Oper) (als:List Al) (i p:Nat):Bool:=
 Region.noSelect l.toArray&&(l.all fun o=>o.guard.isNone)&&dstsB l&&apartAl als &&
 (als.all fun r=>(match l[r.i]? with | some o=>r.allocs o | none=>false)&&(match l[r.k]? with | some o=>r.stores l o | none=>false)&&(als.all fun s=>r.q != s.p)&&r.q != p&&r.p != p&&r.i != i&&r.k != i) &&
 (match l[i]? with | some o=>o.dst==some p && !(o.looksAt l.toArray).contains p&&plainB l als o | none=>false) &&
 (List.range l.length).all fun j=>match l[j]? with
  | none=>false
  | some o=>(o.after.all fun e=>!Region.binds .any e||decide (e.on<j)) &&
    ((als.any fun r=>r.i==j)||(als.any fun r=>r.k==j)||plainB l als o)
def callAt (P:Program) (o:Oper) (a:Act) (h:Hd) (w:World):Prop:=
 match (execOp a.eval o).run P w with
 | .ok (.enter f args) w'=>w'=w∧Calls P f args w fun e w''=>∃ g,e=.returned (h.thing g)∧w.heap.size≤g∧g<w''.heap.size∧Below w.heap.size w w''∧h.Φ g w''
 | _=>False
def mixAllH (P:Program) (w0:World) (af:Act) (h:Hd) (l:List Oper) (vs:List Value):Prop:=
 ∀ (i:Nat) (o:Oper),l[i]?=some o→∃ v,vs[i]?=some v∧
  (match o.op with | .alloc _=>True | .store ..=>True | _=>if i=h.i then ∀ w,Below w0.heap.size w0 w→callAt P o af h w
   else ∀ g w,Below w0.heap.size w0 w→((o.looksAt l.toArray).contains h.p=true→h.Φ g w)→o.quietAt P (af.put (some h.p) (h.thing g)) (fun w'=>Below w.heap.size w w') w v)
def listH (P:Program) (w0:World) (af:Act) (h:Hd) (l:List Oper):Nat→List Oper→List Value→Prop
 | i,o::os,v::vs=>
  (match o.op with | .alloc _=>True | .store ..=>True | _=>if i=h.i then ∀ w,Below w0.heap.size w0 w→callAt P o af h w
   else ∀ g w,Below w0.heap.size w0 w→((o.looksAt l.toArray).contains h.p=true→h.Φ g w)→o.quietAt P (af.put (some h.p) (h.thing g)) (fun w'=>Below w.heap.size w w') w v)∧listH P w0 af h l (i+1) os vs
 | _,[],[]=>True
 | _,_,_=>False
theorem listH_at {P:Program} {w0:World} {af:Act} {h:Hd} {l:List Oper}:∀ (os:List Oper) (vs:List Value) (k i:Nat) (o:Oper),listH P w0 af h l k os vs→os[i]?=some o→∃ v,vs[i]?=some v∧
  (match o.op with | .alloc _=>True | .store ..=>True | _=>if k+i=h.i then ∀ w,Below w0.heap.size w0 w→callAt P o af h w
   else ∀ g w,Below w0.heap.size w0 w→((o.looksAt l.toArray).contains h.p=true→h.Φ g w)→o.quietAt P (af.put (some h.p) (h.thing g)) (fun w'=>Below w.heap.size w w') w v)
 | [],_,_,_,_,_,hi=>by simp at hi
 | _::_,[],_,_,_,hh,_=>hh.elim
 | o::os,v::vs,k,0,o',hh,hi=>by
  simp only[List.getElem?_cons_zero,Option.some.injEq] at hi
  subst hi
  exact⟨v,rfl,hh.1⟩
 | o::os,v::vs,k,i+1,o',hh,hi=>by
  simp only[List.getElem?_cons_succ] at hi ⊢
  have:=listH_at os vs (k+1) i o' hh.2 hi
  rw[show k+(i+1)=k+1+i by omega]
  exact this
theorem mixAllH_of {P:Program} {w0:World} {af:Act} {h:Hd} {l:List Oper} {vs:List Value} (hh:listH P w0 af h l 0 l vs):mixAllH P w0 af h l vs:=fun i o ho=>by
 have:=listH_at l vs 0 i o hh ho
 rw[Nat.zero_add] at this
 exact this
theorem z3z {P:Program} {w0:World} {af:Act} {h:Hd} {l:List Oper} {i:Nat} {o:Oper} {os:List Oper} {v:Value} {vs:List Value} (hi:i≠h.i)
  (hq:∀ g w,Below w0.heap.size w0 w→((o.looksAt l.toArray).contains h.p=true→h.Φ g w)→o.quietAt P (af.put (some h.p) (h.thing g)) (fun w'=>Below w.heap.size w w') w v)
  (hr:listH P w0 af h l (i+1) os vs):listH P w0 af h l i (o::os) (v::vs):=by
 refine And.intro ?_ hr
 split
 ·trivial
 ·trivial
 ·simpa [hi] using hq
theorem listH_call {P:Program} {w0:World} {af:Act} {h:Hd} {l:List Oper} {i:Nat} {o:Oper} {os:List Oper} {v:Value} {vs:List Value} (hi:i=h.i)
  (hq:∀ w,Below w0.heap.size w0 w→callAt P o af h w) (hr:listH P w0 af h l (i+1) os vs):listH P w0 af h l i (o::os) (v::vs):=by
 refine And.intro ?_ hr
 split
 ·trivial
 ·trivial
 ·simpa [hi] using hq
section
variable {l:List Oper} {als:List Al} {vs:List Value} {w0:World} {a0 af:Act} {listed:Array Bool} {a:Act} {w:World} {h:Hd}
theorem all_listedH (hB:mixHB l als h.i h.p=true) (hsz:l.length≤listed.size) (h0:Region.ready .any l.toArray listed=[]):∀ m,m<l.length→listed.getD m false=true:=by
 intro m
 induction m using Nat.strongRecOn with
 | _ m ih=>
  intro hm
  cases hh:listed.getD m false with
  | true=>rfl
  | false=>
   exfalso
   have hu:listed.getD m true=false:=by
    have:m<listed.size:=by omega
    simp[this] at hh ⊢;exact hh
   simp only[mixHB,Bool.and_eq_true] at hB
   have h1:=List.all_eq_true.1 hB.2 m (List.mem_range.2 hm)
   have ho:l[m]?=some l[m]:=List.getElem?_eq_getElem hm
   simp only[ho,Bool.and_eq_true] at h1
   have:m∈Region.ready .any l.toArray listed:=by
    refine mem_ready.2 ⟨hu,l[m],by simp[hm],fun e he hb=>?_⟩
    have h2:=Array.all_eq_true_iff_forall_mem.1 h1.1 e he
    simp only[hb,Bool.not_true,Bool.false_or,decide_eq_true_eq] at h2
    exact ih e.on h2 (by omega)
   rw[h0] at this
   cases this
theorem mixh_any {P:Program} {Q:Exit→Act→World→Prop} (haf:af=lay l vs a0) (hB:mixHB l als h.i h.p=true) (hp:∀ r∈als,r.p<a0.tmps.size) (hhp:h.p<a0.tmps.size)
  (hst:∀ g (w w':World),w'.heap[g]?=w.heap[g]?→h.Φ g w→h.Φ g w') (hpl:mixAllH P w0 af h l vs)
  (hz:∀ r∈als,∀ w:World,(Instr.alloc r.t true (.tuple #[])).run P w=.ok (.pointer (some ⟨w.heap.size,0,none⟩)) (w.alloc (.cells r.z r.t)))
  (hs:∀ r∈als,∀ (w:World) (b:Nat),w.heap[b]?=some (.cells r.z r.t)→∃ w',(Instr.storeAt r.t (.pointer (some ⟨b,0,none⟩)) (af.eval (.tmp r.q))).run P w=.ok () w'∧z9k b (.cells r.f r.t) w w')
  (hQ:∀ a w listed,z5g [h.p] l als w0 a0 af listed a w→HInv h als w0 listed a w→(∀ m,m<l.length→listed.getD m false=true)→Q .normal a w) :
  ∀ (fuel:Nat) (listed:Array Bool) (a:Act) (w:World),listed.count false≤fuel→z5g [h.p] l als w0 a0 af listed a w→HInv h als w0 listed a w→wpAny P .any l.toArray Q fuel listed a w:=by
 intro fuel
 induction fuel with
 | zero=>
  intro listed a w hc I J
  have hall:∀ m,m<l.length→listed.getD m false=true:=fun m hm=>count_zero hc m (Nat.lt_of_lt_of_le hm I.size)
  refine⟨List.eq_nil_iff_forall_not_mem.2 fun j hj=>?_,hQ a w listed I J hall⟩
  obtain⟨hun,o,ho,_⟩:=mem_ready.1 hj
  have hj':j<l.length:=by have:=(Array.getElem?_eq_some_iff.1 ho).1;simpa using this
  have:=hall j hj'
  rw[z5s hun] at this
  cases this
 | succ fuel ih=>
  intro listed a w hc I J
  refine⟨fun h0=>hQ a w listed I J (all_listedH hB I.size h0),fun i hi=>?_⟩
  obtain⟨hun,o,ho,hall⟩:=mem_ready.1 hi
  have hol:l[i]?=some o:=by simpa using ho
  have hlt:i<l.length:=(List.getElem?_eq_some_iff.1 hol).1
  have hB0:=hB
  simp only[mixHB,Bool.and_eq_true] at hB0
  obtain⟨⟨⟨⟨⟨⟨hsel,hgu⟩,hds⟩,hap⟩,hal⟩,hho⟩,hcl⟩:=hB0
  have hguard:o.guard=none:=by
   have:=List.all_eq_true.1 hgu o (List.mem_of_getElem? hol)
   simpa using this
  have hclass:=List.all_eq_true.1 hcl i (List.mem_range.2 hlt)
  simp only[hol,Bool.and_eq_true] at hclass
  obtain⟨oh,hoh,hdh,hlh,hph⟩:∃ oh,l[h.i]?=some oh∧oh.dst=some h.p∧h.p∉oh.looksAt l.toArray∧plainB l als oh=true:=by
   cases hx:l[h.i]? with
   | none=>rw[hx] at hho;cases hho
   | some oh=>
    rw[hx] at hho
    simp only[Bool.and_eq_true,beq_iff_eq] at hho
    exact⟨oh,rfl,hho.1.1,by simpa using hho.1.2,hho.2⟩
  have hkinds:∀ r∈als,(∃ o',l[r.i]?=some o'∧r.allocs o'=true)∧(∃ o',l[r.k]?=some o'∧r.stores l o'=true)∧(∀ s∈als,r.q≠s.p)∧r.q≠h.p∧r.p≠h.p∧r.i≠h.i∧r.k≠h.i:=by
   intro r hr
   have:=List.all_eq_true.1 hal r hr
   simp only[Bool.and_eq_true,bne_iff_ne,ne_eq] at this
   obtain⟨⟨⟨⟨⟨⟨h1,h2⟩,h3⟩,h4⟩,h5⟩,h6⟩,h7⟩:=this
   refine⟨?_,?_,fun s hs=>by simpa using List.all_eq_true.1 h3 s hs,h4,h5,h6,h7⟩
   ·cases hx:l[r.i]? with
    | none=>rw[hx] at h1;cases h1
    | some o'=>rw[hx] at h1;exact⟨o',rfl,h1⟩
   ·cases hx:l[r.k]? with
    | none=>rw[hx] at h2;cases h2
    | some o'=>rw[hx] at h2;exact⟨o',rfl,h2⟩
  have hik:∀ r∈als,∀ s∈als,r.i≠s.k:=by
   intro r hr s hs e
   obtain⟨o1,h1,k1⟩:=(hkinds r hr).1
   obtain⟨o2,h2,k2⟩:=(hkinds s hs).2.1
   rw[e,h2] at h1
   cases h1
   simp only[Al.allocs,Bool.and_eq_true] at k1
   simp only[Al.stores,Bool.and_eq_true] at k2
   have e1:=k1.1
   have e2:=k2.1.1.1
   split at e1
   ·rename_i hx;rw[hx] at e2;cases e2
   ·cases e1
  unfold wpOp
  rw[ho]
  have hwant:Region.wanted o (yielded l.toArray a.tmps)=true:=by simp[Region.wanted,hguard]
  simp only[hwant,if_true]
  refine Or.inl ?_
  unfold Oper.wp
  by_cases hA:∃ r∈als,r.i=i
  ·obtain⟨r,hr,rfl⟩:=hA
   obtain⟨o',ho',hk⟩:=(hkinds r hr).1
   rw[hol] at ho'
   cases ho'
   simp only[Al.allocs,Bool.and_eq_true,beq_iff_eq] at hk
   have hop:o.op=.alloc r.t:=by
    have:=hk.1
    split at this
    ·rename_i t hx;rw[hx];congr 1;simpa using this
    ·cases this
   have hrun:(execOp a.eval o).run P w=.ok (.value (.pointer (some ⟨w.heap.size,0,none⟩))) (w.alloc (.cells r.z r.t)):=by
    unfold execOp
    rw[hop]
    simp[hz r hr w]
   rw[hrun]
   refine ih _ _ _ (count_set hun hc) (inv_alloc I hap hr hol hk.2 hun (fun s hs e=>hik r hr s hs e.symm) hp) ⟨fun hl=>?_⟩
   obtain⟨g,g1,g2,g3,g4,g5⟩:=J.own ((z1g hl).resolve_left (fun e=>(hkinds r hr).2.2.2.2.2.1 e.symm))
   refine⟨g,?_,g2,by simp;omega,hst g w _ (Below.heap_alloc _ _ _ g3) g4,fun s hs hl'=>?_⟩
   ·rw[hk.2,z1z (fun e=>(hkinds r hr).2.2.2.2.1 (Option.some.inj e))];exact g1
   ·rw[hk.2]
    by_cases e:s.p=r.p
    ·rw[e,z6g (by rw[I.tsize];exact hp r hr)]
     intro hx;injection hx with hx;injection hx with hx;injection hx with hx;injection hx with hx;omega
    ·rw[z1z (fun e'=>e (Option.some.inj e').symm)]
     refine g5 s hs ((z1g hl').resolve_left (fun e'=>e ?_))
     rw[z9e als hap s hs r hr (Or.inl e')]
  ·by_cases hS:∃ r∈als,r.k=i
   ·obtain⟨r,hr,rfl⟩:=hS
    obtain⟨o',ho',hk⟩:=(hkinds r hr).2.1
    rw[hol] at ho'
    cases ho'
    simp only[Al.stores,Bool.and_eq_true,beq_iff_eq] at hk
    obtain⟨⟨⟨hk1,hd⟩,hwi⟩,hrd⟩:=hk
    have hop:o.op=.store r.t (.tmp r.p) (.tmp r.q):=by
     split at hk1
     ·rename_i t p q hx
      simp only[Bool.and_eq_true,beq_iff_eq] at hk1
      rw[hx,hk1.1.1,hk1.1.2,hk1.2]
     ·cases hk1
    have hli:listed.getD r.i false=true:=waits_of hwi hall
    have hk0:listed.getD r.k false=false:=z5s hun
    obtain⟨b,b1,b2,b3,b4⟩:=I.blocks r hr hli
    rw[hk0] at b4
    have eq:a.eval (.tmp r.q)=af.eval (.tmp r.q):=by
     have:=I.slots r.q (fun s hs e=>(hkinds r hr).2.2.1 s hs e.symm) (by simpa using (hkinds r hr).2.2.2.1) (fun m om h1 h2=>reads_of hrd hall m om h1 h2)
     simp only[Act.eval,Array.getD_eq_getD_getElem?,this]
    have ep:a.eval (.tmp r.p)=.pointer (some ⟨b,0,none⟩):=by
     simp only[Act.eval,Array.getD_eq_getD_getElem?,b1,Option.getD_some]
    obtain⟨w',hw',ht⟩:=hs r hr w b b4
    have hrun:(execOp a.eval o).run P w=.ok .skip w':=by
     unfold execOp
     rw[hop]
     simp[ep,eq,hw']
    rw[hrun]
    refine ih _ _ _ (count_set hun hc) (inv_store I hap hr hol hd hun hli (fun s hs e=>hik s hs r hr e) b1 b2 b3 ht) ⟨fun hl=>?_⟩
    obtain⟨g,g1,g2,g3,g4,g5⟩:=J.own ((z1g hl).resolve_left (fun e=>(hkinds r hr).2.2.2.2.2.2 e.symm))
    rw[hd]
    have hgb:g≠b:=fun e=>g5 r hr hli (by rw[b1,e])
    exact⟨g,g1,g2,by rw[ht.size];exact g3,hst g w w' (ht.block g hgb) g4,fun s hs hl'=>g5 s hs ((z1g hl').resolve_left (hik s hs r hr))⟩
   ·have hpb:plainB l als o=true:=by
     rcases hclass.2 with hx
     simp only[Bool.or_eq_true] at hx
     rcases hx with (hx | hx) | hx
     ·obtain⟨r,hr,e⟩:=List.any_eq_true.1 hx
      exact absurd ⟨r,hr,by simpa using e⟩ hA
     ·obtain⟨r,hr,e⟩:=List.any_eq_true.1 hx
      exact absurd ⟨r,hr,by simpa using e⟩ hS
     ·exact hx
    simp only[plainB,Bool.and_eq_true] at hpb
    obtain⟨⟨hk,hnp⟩,hrd⟩:=hpb
    obtain⟨v,hv,hq⟩:=hpl i o hol
    have hnp':∀ r∈als,o.dst≠some r.p∧r.p∉o.looksAt l.toArray:=by
     intro r hr
     have:=List.all_eq_true.1 hnp r hr
     simpa using this
    have hnot:∀ r∈als,r.i≠i∧r.k≠i∧o.dst≠some r.p:=fun r hr=>⟨fun e=>hA ⟨r,hr,e⟩,fun e=>hS ⟨r,hr,e⟩,(hnp' r hr).1⟩
    by_cases hih:i=h.i
    ·subst hih
     rw[hol] at hoh
     cases hoh
     have hq':∀ w,Below w0.heap.size w0 w→callAt P o af h w:=by
      split at hq
      ·rename_i hx;rw[hx] at hk;cases hk
      ·rename_i hx;rw[hx] at hk;cases hk
      ·simpa using hq
     have heq:execOp a.eval o=execOp af.eval o:=by
      refine execOp_congr o (fun cs b=>Region.noSelect_spec hsel h.i o cs b ho) fun x hx=>?_
      cases x with
      | tmp t=>
       have hmem:t∈o.looksAt l.toArray:=List.mem_append_left _ (List.mem_filterMap.2 ⟨.tmp t,by simpa using hx,rfl⟩)
       have h1:=List.all_eq_true.1 hrd t hmem
       have:=I.slots t (fun r hr e=>(hnp' r hr).2 (e ▸ hmem)) (by simp;exact fun e=>hlh (e ▸ hmem)) (fun m om h2 h3=>reads_of h1 hall m om h2 h3)
       simp only[Act.eval,Array.getD_eq_getD_getElem?,this]
      | _=>rfl
     have hgo:=hq' w I.below
     unfold callAt at hgo
     rw[heq]
     generalize (execOp af.eval o).run P w=res at hgo
     cases res with
     | halt x w'=>exact hgo.elim
     | ok n w'=>
      cases n <;> try exact hgo.elim
      case enter f args=>
       obtain⟨rfl,hcall⟩:=hgo
       simp only[Oper.upon]
       refine hcall.mono ?_
       rintro e w'' ⟨g,rfl,g1,g2,g3,g4⟩
       have hbs:Below w0.heap.size w0 w'':=I.below.trans (g3.mono I.below.size)
       refine ih _ _ _ (count_set hun hc) ?_ ⟨fun _=>⟨g,?_,Nat.le_trans I.below.size g1,g2,g4,fun s hs hl'=>?_⟩⟩
       ·refine⟨by simpa using I.size,by rw[z6f];exact I.tsize,by rw[z6l];exact I.defs,hbs,?_,?_,?_,?_⟩
        ·intro q hq1 hex hm
         rw[z1z (fun e=>hex (by rw[hdh] at e;simp[Option.some.inj e]))]
         refine I.slots q hq1 hex fun m om h1 h2=>?_
         by_cases hmi:m=h.i
         ·subst hmi;rw[hol] at h1;cases h1;rw[hdh];exact fun e=>hex (by simp[Option.some.inj e])
         ·exact hm m om h1 (unl_old hmi h2)
        ·intro r hr hl
         obtain⟨h1,h2,h3⟩:=hnot r hr
         obtain⟨b,b1,b2,b3,b4⟩:=I.blocks r hr ((z1g hl).resolve_left h1)
         refine⟨b,by rw[z1z h3];exact b1,b2,Nat.lt_of_lt_of_le b3 g3.size,?_⟩
         rw[g3.block b b3,b4,getD_set_ne false (Ne.symm h2)]
        ·intro r hr hl
         exact getD_set_true (I.order r hr ((z1g hl).resolve_left (hnot r hr).2.1))
        ·intro r hr s hs hne hl hl'
         rw[z1z (hnot r hr).2.2,z1z (hnot s hs).2.2]
         exact I.apart r hr s hs hne ((z1g hl).resolve_left (hnot r hr).1) ((z1g hl').resolve_left (hnot s hs).1)
       ·rw[hdh,z6g (by rw[I.tsize];exact hhp)]
       ·rw[z1z (hnot s hs).2.2]
        obtain⟨b,b1,b2,b3,b4⟩:=I.blocks s hs ((z1g hl').resolve_left (hnot s hs).1)
        rw[b1]
        intro hx;injection hx with hx;injection hx with hx;injection hx with hx;injection hx with hx;omega
    ·have hq':∀ g w,Below w0.heap.size w0 w→((o.looksAt l.toArray).contains h.p=true→h.Φ g w)→o.quietAt P (af.put (some h.p) (h.thing g)) (fun w'=>Below w.heap.size w w') w v:=by
      split at hq
      ·rename_i hx;rw[hx] at hk;cases hk
      ·rename_i hx;rw[hx] at hk;cases hk
      ·simpa [hih] using hq
     have hdo:o.dst≠some h.p:=fun e=>hih (dsts_one l i h.i o oh h.p hds hol hoh e hdh)
     have hget:∃ g,((o.looksAt l.toArray).contains h.p=true→h.Φ g w)∧execOp a.eval o=execOp (af.put (some h.p) (h.thing g)).eval o:=by
      have hslot:∀ t,t∈o.looksAt l.toArray→t≠h.p→a.tmps[t]?=af.tmps[t]?:=by
       intro t hmem htp
       have h1:=List.all_eq_true.1 hrd t hmem
       exact I.slots t (fun r hr e=>(hnp' r hr).2 (e ▸ hmem)) (by simpa using htp) (fun m om h2 h3=>reads_of h1 hall m om h2 h3)
      by_cases hin:h.p∈o.looksAt l.toArray
      ·have h1:=List.all_eq_true.1 hrd h.p hin
       have hli:listed.getD h.i false=true:=by
        have hx:=List.all_eq_true.1 h1 h.i (List.mem_range.2 (List.getElem?_eq_some_iff.1 hoh).1)
        simp only[hoh,hdh,bne_self_eq_false,Bool.false_or] at hx
        exact waits_of hx hall
       obtain⟨g,g1,g2,g3,g4,g5⟩:=J.own hli
       refine⟨g,fun _=>g4,execOp_congr o (fun cs b=>Region.noSelect_spec hsel i o cs b ho) fun x hx=>?_⟩
       cases x with
       | tmp t=>
        have hmem:t∈o.looksAt l.toArray:=List.mem_append_left _ (List.mem_filterMap.2 ⟨.tmp t,by simpa using hx,rfl⟩)
        by_cases htp:t=h.p
        ·subst htp
         simp only[Act.eval,Array.getD_eq_getD_getElem?,g1]
         rw[z6g (by rw[haf,(z6h l vs a0).1];exact hhp)]
        ·simp only[Act.eval,Array.getD_eq_getD_getElem?,hslot t hmem htp]
         rw[z1z (fun e=>htp (Option.some.inj e).symm)]
       | _=>rfl
      ·refine⟨0,fun hc=>absurd (by simpa using hc) hin,execOp_congr o (fun cs b=>Region.noSelect_spec hsel i o cs b ho) fun x hx=>?_⟩
       cases x with
       | tmp t=>
        have hmem:t∈o.looksAt l.toArray:=List.mem_append_left _ (List.mem_filterMap.2 ⟨.tmp t,by simpa using hx,rfl⟩)
        have htp:t≠h.p:=fun e=>hin (e ▸ hmem)
        simp only[Act.eval,Array.getD_eq_getD_getElem?,hslot t hmem htp]
        rw[z1z (fun e=>htp (Option.some.inj e).symm)]
       | _=>rfl
     obtain⟨g0,hΦ,heq⟩:=hget
     have hgo:=hq' g0 w I.below hΦ
     unfold Oper.quietAt at hgo
     rw[heq]
     have hnext:∀ w',Below w.heap.size w w'→wpAny P .any l.toArray Q fuel (listed.setIfInBounds i true) (a.put o.dst v) w':=fun w' hw'=>by
      refine ih _ _ _ (count_set hun hc) (inv_plain I haf hds hol hv hun hnot hw') ⟨fun hl=>?_⟩
      obtain⟨g,g1,g2,g3,g4,g5⟩:=J.own ((z1g hl).resolve_left (fun e=>hih e.symm))
      exact⟨g,by rw[z1z hdo];exact g1,g2,Nat.lt_of_lt_of_le g3 hw'.size,hst g w w' (hw'.block g g3) g4,fun s hs hl'=>by rw[z1z (hnot s hs).2.2];exact g5 s hs ((z1g hl').resolve_left (hnot s hs).1)⟩
     generalize (execOp (af.put (some h.p) (h.thing g0)).eval o).run P w=res at hgo
     cases res with
     | ok n w'=>
      cases n <;> simp only[Oper.quietUpon] at hgo <;> simp only[Oper.upon]
      case value u=>
       obtain⟨rfl,rfl⟩:=hgo
       exact hnext _ (Below.refl _ _)
      case skip=>
       obtain⟨rfl,rfl⟩:=hgo
       exact hnext _ (Below.refl _ _)
      case enter f args=>
       obtain⟨rfl,hcall⟩:=hgo
       exact hcall.mono fun e w'' ⟨he,hw''⟩=>by subst he;exact hnext _ hw''
     | halt x w'=>simp only[Oper.quietUpon] at hgo
theorem mixh_final (hB:mixHB l als h.i h.p=true) (hp:∀ r∈als,r.p<a0.tmps.size) (hhp:h.p<a0.tmps.size) (I:z5g [h.p] l als w0 a0 (lay l vs a0) listed a w) (J:HInv h als w0 listed a w) (hall:∀ m,m<l.length→listed.getD m false=true) :
  ∃ (β:Nat→Nat) (g:Nat),a=z3o β als ((lay l vs a0).put (some h.p) (h.thing g))∧Below w0.heap.size w0 w∧(∀ r∈als,w0.heap.size≤β r.p∧β r.p<w.heap.size∧w.heap[β r.p]?=some (.cells r.f r.t))∧(∀ r∈als,∀ s∈als,r.p≠s.p→β r.p≠β s.p):=by
 have hB0:=hB
 simp only[mixHB,Bool.and_eq_true] at hB0
 obtain⟨⟨⟨⟨⟨⟨hsel,hgu⟩,hds⟩,hap⟩,hal⟩,hho⟩,hcl⟩:=hB0
 have hidx:∀ r∈als,r.i<l.length∧r.k<l.length∧r.p≠h.p:=by
  intro r hr
  have:=List.all_eq_true.1 hal r hr
  simp only[Bool.and_eq_true,bne_iff_ne,ne_eq] at this
  obtain⟨⟨⟨⟨⟨⟨h1,h2⟩,_⟩,_⟩,h5⟩,_⟩,_⟩:=this
  refine⟨?_,?_,h5⟩
  ·cases hx:l[r.i]? with
   | none=>rw[hx] at h1;cases h1
   | some o=>exact (List.getElem?_eq_some_iff.1 hx).1
  ·cases hx:l[r.k]? with
   | none=>rw[hx] at h2;cases h2
   | some o=>exact (List.getElem?_eq_some_iff.1 hx).1
 have hhi:h.i<l.length:=by
  cases hx:l[h.i]? with
  | none=>rw[hx] at hho;cases hho
  | some oh=>exact (List.getElem?_eq_some_iff.1 hx).1
 obtain⟨g,g1,_⟩:=J.own (hall _ hhi)
 have hex:∃ β:Nat→Nat,∀ r∈als,a.tmps[r.p]?=some (.pointer (some ⟨β r.p,0,none⟩)):=by
  refine⟨fun q=>match a.tmps[q]? with | some (.pointer (some b))=>b.block | _=>0,fun r hr=>?_⟩
  obtain⟨b,b1,_⟩:=I.blocks r hr (hall _ (hidx r hr).1)
  simp only[b1]
 obtain⟨β,hβ⟩:=hex
 refine⟨β,g,?_,I.below,fun r hr=>?_,fun r hr s hs hne e=>?_⟩
 ·have h1:a.tmps=(z3o β als ((lay l vs a0).put (some h.p) (h.thing g))).tmps:=by
   apply Array.ext_getElem?
   intro q
   by_cases hq:∃ r∈als,r.p=q
   ·have hq':=hq
    obtain⟨r,hr,rfl⟩:=hq
    rw[hβ r hr,putAl_at β r.p als _ hq' (by rw[z6f,(z6h l vs a0).1];exact hp r hr)]
   ·rw[z7q β q als _ (fun r hr e=>hq ⟨r,hr,e⟩)]
    by_cases hqh:q=h.p
    ·subst hqh
     rw[z6g (by rw[(z6h l vs a0).1];exact hhp)];exact g1
    ·rw[z1z (fun e=>hqh (Option.some.inj e).symm)]
     refine I.slots q (fun r hr e=>hq ⟨r,hr,e⟩) (by simpa using hqh) fun m om h2 h3=>?_
     have:=hall m (List.getElem?_eq_some_iff.1 h2).1
     rw[z5s h3] at this
     cases this
  have h2:a.defers=(z3o β als ((lay l vs a0).put (some h.p) (h.thing g))).defers:=by rw[I.defs,(putAl_size β als _).2,z6l,(z6h l vs a0).2]
  cases a
  generalize z3o β als ((lay l vs a0).put (some h.p) (h.thing g))=c at *
  cases c
  simp only at h1 h2
  rw[h1,h2]
 ·obtain⟨b,b1,b2,b3,b4⟩:=I.blocks r hr (hall _ (hidx r hr).1)
  rw[hall _ (hidx r hr).2.1] at b4
  rw[hβ r hr] at b1
  injection b1 with hx;injection hx with hx;injection hx with hx;injection hx with hx
  rw[hx]
  exact⟨b2,b3,b4⟩
 ·refine I.apart r hr s hs hne (hall _ (hidx r hr).1) (hall _ (hidx s hs).1) ?_
  rw[hβ r hr,hβ s hs,e]
theorem wp_region_mixh {P:Program} {Q:Exit→Act→World→Prop} {id:Nat} (als:List Al) (h:Hd) (vs:List Value) (hm:P.follows .mixedOrders=true) (hB:mixHB l als h.i h.p=true) (hp:∀ r∈als,r.p<a0.tmps.size) (hhp:h.p<a0.tmps.size)
  (hst:∀ g (w w':World),w'.heap[g]?=w.heap[g]?→h.Φ g w→h.Φ g w')
  (hpl:listH P w0 (lay l vs a0) h l 0 l vs)
  (hz:∀ r∈als,∀ w:World,(Instr.alloc r.t true (.tuple #[])).run P w=.ok (.pointer (some ⟨w.heap.size,0,none⟩)) (w.alloc (.cells r.z r.t)))
  (hs:∀ r∈als,∀ (w:World) (b:Nat),w.heap[b]?=some (.cells r.z r.t)→∃ w',(Instr.storeAt r.t (.pointer (some ⟨b,0,none⟩)) ((lay l vs a0).eval (.tmp r.q))).run P w=.ok () w'∧z9k b (.cells r.f r.t) w w')
  (hQ:∀ (β:Nat→Nat) (g:Nat) (w:World),Below w0.heap.size w0 w→(∀ r∈als,w0.heap.size≤β r.p∧β r.p<w.heap.size∧w.heap[β r.p]?=some (.cells r.f r.t))→(∀ r∈als,∀ s∈als,r.p≠s.p→β r.p≠β s.p)→
   Q .normal (z3o β als ((lay l vs a0).put (some h.p) (h.thing g))) w):(Code.region id l.toArray true).wp P Q a0 w0:=by
 refine wp_region_any hm ?_
 refine mixh_any (als:=als) (vs:=vs) (w0:=w0) (a0:=a0) (h:=h) (af:=lay l vs a0) rfl hB hp hhp hst (mixAllH_of hpl) hz hs ?_ _ _ _ _ ?_ ?_ ?_
 ·intro a w listed I J hall
  obtain⟨β,g,e,h1,h2,h3⟩:=mixh_final hB hp hhp I J hall
  rw[e]
  exact hQ β g w h1 h2 h3
 ·simp
 ·have:=mix_start (l:=l) (als:=als) (vs:=vs) (w0:=w0) (a0:=a0) l.toArray.size (by simp) (w0.drawn+1)
  exact⟨this.size,this.tsize,this.defs,this.below,fun q h1 _ h3=>this.slots q h1 (by simp) h3,this.blocks,this.order,this.apart⟩
 ·exact⟨fun hl=>by rw[getD_replicate_false] at hl;cases hl⟩
end
end
section
open Go.RowKit Go.Maps Go.MapKept Go.ChangeShapes Go.WideShapes
theorem iundK:Tryz.prog.underlying 3=some (.int .i64):=by kernel_rfl
theorem iundE:Tryz.prog.underlying 31=some (.int .u32):=by kernel_rfl
theorem iundM:Tryz.prog.underlying 165=some (.map 3 31):=by kernel_rfl
theorem ikeyed:Keyed Tryz.prog 3:=int_keyed iundK
theorem izero (w:World):(zeroValue 31).run Tryz.prog w=.ok (.int .u32 0) w:=by kernel_rfl
theorem imade (w:World):(Instr.makeMap 165 none).run Tryz.prog w=.ok (.map (some w.heap.size)) (w.alloc (.map #[] 0)):=by kernel_rfl
def N64 (i:Int):Prop:=-9223372036854775808≤i∧i<9223372036854775808
theorem n64_wf {i:Int} (h:N64 i):(Lit.int .i64 i).wf=true:=by
 obtain⟨h0,h1⟩:=h
 simp[Lit.wf,IntKind.min,IntKind.max,IntKind.bits,IntKind.signed]
 omega
theorem wf_n64 {i:Int} (h:(Lit.int .i64 i).wf=true):N64 i:=by
 simp[Lit.wf,IntKind.min,IntKind.max,IntKind.bits,IntKind.signed] at h
 unfold N64
 omega
theorem u32_wf {i:Int} (h:U32 i):(Lit.int .u32 i).wf=true:=by
 obtain⟨h0,h1⟩:=h
 simp[Lit.wf,IntKind.min,IntKind.max,IntKind.bits,IntKind.signed]
 omega
structure z5w (w:World) (g n:Nat) (M:Int→Option Int):Prop where
 own:∃ D:DataW Unit,w.ownsMap Tryz.prog 3 (plainElem Tryz.prog 31) g n D∧∀ i,N64 i→Maps.has D (.int .i64 i)=(M i).isSome∧∀ x,M i=some x→∀ z,D.atKey (.int .i64 i) z=.lit (.int .u32 x)
 out:∀ i,¬N64 i→M i=none
def updM (M:Int→Option Int) (i x:Int) (j:Int):Option Int:=if j=i then some x else M j
theorem mapIs_made (w:World):z5w (w.alloc (.map #[] 0)) w.heap.size 0 (fun _=>none):=
 ⟨⟨.map [],World.ownsMap_made w Tryz.prog 3 _,fun _ _=>⟨rfl,fun _ h=>by cases h⟩⟩,fun _ _=>rfl⟩
theorem mapIs_block {w w':World} {g n:Nat} {M:Int→Option Int} (h:z5w w g n M) (hb:w'.heap[g]?=w.heap[g]?):z5w w' g n M:=by
 obtain⟨⟨D,⟨es,clock,h1,h2⟩,h3⟩,h4⟩:=h
 exact⟨⟨D,⟨es,clock,hb.trans h1,h2⟩,h3⟩,h4⟩
theorem mapIs_lt {w:World} {g n:Nat} {M:Int→Option Int} (h:z5w w g n M):g<w.heap.size:=by
 obtain⟨⟨D,h1,_⟩,_⟩:=h
 exact h1.lt
theorem mapIs_kept {w w':World} {g n:Nat} {M:Int→Option Int} (h:z5w w g n M) (hb:Below w.heap.size w w'):z5w w' g n M:=by
 obtain⟨⟨D,⟨es,clock,h1,h2⟩,h3⟩,h4⟩:=h
 exact⟨⟨D,⟨es,clock,z0f h1 hb,h2⟩,h3⟩,h4⟩
theorem z7l {w:World} {g n:Nat} {M N:Int→Option Int} (h:z5w w g n M) (e:∀ i,M i=N i):z5w w g n N:=by
 have:M=N:=funext e
 rwa [← this]
theorem mapIs_mono {w:World} {g n m:Nat} {M:Int→Option Int} (h:z5w w g n M) (hn:n≤m):z5w w g m M:=by
 obtain⟨⟨D,h1,h2⟩,h3⟩:=h
 exact⟨⟨D,h1.mono hn,h2⟩,h3⟩
theorem mapIs_put {w:World} {g n:Nat} {M:Int→Option Int} (h:z5w w g n M) {i x:Int} (hi:N64 i) (hx:U32 x) (hn:n<maxLen) :
  ∃ w',(Instr.mapUpdate 165 (.map (some g)) (.int .i64 i) (.int .u32 x)).run Tryz.prog w=.ok () w'∧z5w w' g (n+1) (updM M i x)∧w.grownBy w' (some g):=by
 obtain⟨⟨D,h1,h2⟩,h3⟩:=h
 have hk:keyOf Tryz.prog 3 (.int .i64 i)=some (.int .i64 i):=keyOf_int_mk iundK (n64_wf hi)
 obtain⟨w',e1,e2,e3⟩:=h1.update ikeyed iundM hn hk (plainElem_int iundE (u32_wf hx))
 refine⟨w',e1,⟨⟨_,e2,fun j hj=>?_⟩,fun j hj=>?_⟩,e3⟩
 ·unfold updM
  by_cases hji:j=i
  ·subst hji
   rw[if_pos rfl]
   refine⟨has_put_same h1.isMap (ikeyed.key hk) _,fun y hy z=>?_⟩
   cases hy
   exact atKey_put_same h1.isMap (ikeyed.key hk) _ z
  ·have hne:(Lit.int .i64 j)≠.int .i64 i:=fun e=>hji (by injection e)
   rw[if_neg hji,has_put_other hne]
   refine⟨(h2 j hj).1,fun y hy z=>?_⟩
   rw[atKey_put_other hne]
   exact (h2 j hj).2 y hy z
 ·unfold updM
  by_cases hji:j=i
  ·subst hji;exact absurd hi hj
  ·rw[if_neg hji];exact h3 j hj
theorem mapIs_look {w:World} {g n:Nat} {M:Int→Option Int} (h:z5w w g n M) (i:Int) (c:Bool) :
  (Instr.lookup 165 (.map (some g)) (.int .i64 i) c).run Tryz.prog w=.ok (if c then .tuple #[.int .u32 ((M i).getD 0),.bool (M i).isSome] else .int .u32 ((M i).getD 0)) w:=by
 obtain⟨⟨D,h1,h2⟩,h3⟩:=h
 by_cases hi:N64 i
 ·have hk:keyOf Tryz.prog 3 (.int .i64 i)=some (.int .i64 i):=keyOf_int_mk iundK (n64_wf hi)
  obtain⟨q1,q2⟩:=h2 i hi
  have hval:∀ v ps,plainElem (H:=Unit) Tryz.prog 31 v=some (D.atKey (.int .i64 i) (.lit (.int .u32 0)),ps)→v=.int .u32 ((M i).getD 0):=fun v ps hv=>by
   obtain⟨y,rfl,hy,_⟩:=plainElem_int_inv iundE hv
   have hy1:=congrArg Prod.fst hy
   cases hM:M i with
   | none=>
    rw[hM] at q1
    rw[atKey_of_not_has q1] at hy1
    simp only[DataW.lit.injEq,Lit.int.injEq,true_and] at hy1
    rw[← hy1];rfl
   | some x=>
    rw[q2 x hM] at hy1
    simp only[DataW.lit.injEq,Lit.int.injEq,true_and] at hy1
    rw[← hy1];rfl
  cases c
  ·obtain⟨v,ps,e1,e2⟩:=h1.lookup ikeyed iundM (izero w) (plainElem_int iundE (u32_wf ⟨by decide,by decide⟩)) hk
   rw[e1,hval v ps e2];rfl
  ·obtain⟨v,ps,e1,e2⟩:=h1.look_ok ikeyed iundM (izero w) (plainElem_int iundE (u32_wf ⟨by decide,by decide⟩)) hk
   rw[e1,hval v ps e2,q1];rfl
 ·rw[h3 i hi]
  obtain⟨es,clock,hb,F,hs,_⟩:=h1
  have hx:IsKey (.int .i64) (.int .i64 i):=rfl
  have hks:∀ y∈es.toList,IsKey (.int .i64) y.key∧y.key≠.int .i64 i:=fun y hy=>by
   obtain⟨l,hl⟩:=F.keys y hy
   have hl':mapKey Tryz.prog 3 y.key=some l:=by simpa [keyOf,iundK] using hl
   obtain⟨d',hd',k1,k2⟩:=mapKey_isKey hl'
   rw[iundK] at hd'
   cases hd'
   refine⟨k1,fun e=>hi (wf_n64 ?_)⟩
   rw[e] at hl'
   simp[mapKey] at hl'
   exact hl'.1
  rcases findNow_spec hx es.toList 0 (fun y hy=>(hks y hy).1) with ⟨f1,f2⟩ | ⟨j,e0,f1,f2,f3⟩
  ·have hf:(Instr.findKey 3 (.int .i64 i) es.toList).run Tryz.prog w=.ok none w:=run_findKey iundK f1
   have hc:(Instr.checkKey es.isEmpty 10000 3 (.int .i64 i)).run Tryz.prog w=.ok () w:=run_checkKey iundK hx _ 9999
   cases c <;> simp[Instr.lookup,run_underlying iundM,MapKept.run_getObj_map hb,hc,hf,izero w,Result.andThen]
  ·exact absurd f3 (hks e0 (List.mem_of_getElem? f2)).2
section
variable {ops:Array Oper} {rest:List Oper} {o:Oper} {a:Act} {w:World} {Q:Exit→Act→World→Prop}
theorem z5h (hg:o.guard=none) {m k v:Operand} (hop:o.op=.mapUpdate 165 m k v∨o.op=.insert 165 m k v) {b n:Nat} {M:Int→Option Int} {i x:Int}
  (hm:a.eval m=.map (some b)) (hk:a.eval k=.int .i64 i) (hv:a.eval v=.int .u32 x) (h:z5w w b n M) (hi:N64 i) (hx:U32 x) (hn:n<maxLen)
  (hK:∀ w',z5w w' b (n+1) (updM M i x)→(∀ j (ob:Obj),j≠b→w.heap[j]?=some ob→w'.heap[j]?=some ob)→(∀ (B:Nat) (w0:World),B≤b→Below B w0 w→Below B w0 w')→wpList Tryz.prog ops Q rest (a.put o.dst undef) w') :
  wpList Tryz.prog ops Q (o::rest) a w:=by
 refine wpList_plain hg fun K' hK'=>?_
 obtain⟨w',hrun,r1,r2⟩:=mapIs_put h hi hx hn
 unfold Oper.wp
 have hlt:=mapIs_lt h
 rcases hop with hop | hop
 ·simp[execOp,hop,hm,hk,hv,hrun,Result.andThen]
  exact hK' _ _ (hK w' r1 (fun j ob hj hl=>(r2.block j (Array.getElem?_eq_some_iff.1 hl).1 (by simpa using hj)).trans hl) (fun B w0 hB hb=>z4b hb r2 (by omega) hB))
 ·simp[execOp,hop,hm,hk,hv,hrun,Result.andThen]
  exact hK' _ _ (hK w' r1 (fun j ob hj hl=>(r2.block j (Array.getElem?_eq_some_iff.1 hl).1 (by simpa using hj)).trans hl) (fun B w0 hB hb=>z4b hb r2 (by omega) hB))
theorem wpList_mget (hg:o.guard=none) {m k:Operand} (hop:o.op=.lookup 165 m k false) {b n:Nat} {M:Int→Option Int} {i:Int}
  (hm:a.eval m=.map (some b)) (hk:a.eval k=.int .i64 i) (h:z5w w b n M) (hK:wpList Tryz.prog ops Q rest (a.put o.dst (.int .u32 ((M i).getD 0))) w):wpList Tryz.prog ops Q (o::rest) a w:=by
 refine wpList_plain hg fun K' hK'=>?_
 have hrun:=mapIs_look h i false
 unfold Oper.wp
 simp[execOp,hop,hm,hk,hrun,Result.andThen]
 exact hK' _ _ hK
theorem wpList_mgetok (hg:o.guard=none) {m k:Operand} (hop:o.op=.lookup 165 m k true) {b n:Nat} {M:Int→Option Int} {i:Int}
  (hm:a.eval m=.map (some b)) (hk:a.eval k=.int .i64 i) (h:z5w w b n M) (hK:wpList Tryz.prog ops Q rest (a.put o.dst (.tuple #[.int .u32 ((M i).getD 0),.bool (M i).isSome])) w):wpList Tryz.prog ops Q (o::rest) a w:=by
 refine wpList_plain hg fun K' hK'=>?_
 have hrun:=mapIs_look h i true
 unfold Oper.wp
 simp[execOp,hop,hm,hk,hrun,Result.andThen]
 exact hK' _ _ hK
theorem z4o (hg:o.guard=none) {m k:Operand} (hop:o.op=.lookup 165 m k true) {b n:Nat} {M:Int→Option Int} {i x:Int}
  (hm:a.eval m=.map (some b)) (hk:a.eval k=.int .i64 i) (h:z5w w b n M) (hM:M i=some x) (hK:wpList Tryz.prog ops Q rest (a.put o.dst (.tuple #[.int .u32 x,.bool true])) w):wpList Tryz.prog ops Q (o::rest) a w:=
 wpList_mgetok hg hop hm hk h (by rw[hM];exact hK)
theorem z8e (hg:o.guard=none) {m k:Operand} (hop:o.op=.lookup 165 m k true) {b n:Nat} {M:Int→Option Int} {i:Int}
  (hm:a.eval m=.map (some b)) (hk:a.eval k=.int .i64 i) (h:z5w w b n M) (hM:M i=none) (hK:wpList Tryz.prog ops Q rest (a.put o.dst (.tuple #[.int .u32 0,.bool false])) w):wpList Tryz.prog ops Q (o::rest) a w:=
 wpList_mgetok hg hop hm hk h (by rw[hM];exact hK)
end
end
section
section
variable {l:List Oper} {als:List Al} {vs:List Value} {w0:World} {a0 af:Act}
end
theorem run_store_row {P:Program} {o:Oper} {a:Act} {w:World} (ty:TypeId) (x y:Operand) (ho:o.op=.store ty x y) (b:Nat) (hx:a.eval x=.pointer (some ⟨b,0,none⟩)) (f:Array Value) (hy:a.eval y=.agg f) (t:TypeId) (z:Array Value) (h:w.heap[b]?=some (.cells z t)) (hi:(P.info? ty).map (·.size)=some f.size) (hs:z.size=f.size) (h1:f.all (·.oneCell')=true) :
  (execOp a.eval o).run P w=.ok .skip (w.setRow b f):=by
 unfold execOp
 simp only[ho,hx,hy,Instr.storeAt,Instr.sureAddr,Sem.run_bind,Sem.run_pure,Result.andThen_ok,run_storeVar_row w b t ty z f h hi hs h1]
end
section
section
variable {P:Program} {ops:Array Oper} {Q:Exit→Act→World→Prop} {md:Region.Mode} {k0:Nat} {S:Bool→World→Prop}
def z5x (P:Program) (md:Region.Mode) (ops:Array Oper) (Q:Exit→Act→World→Prop) (k0:Nat) (S:Bool→World→Prop):Nat→Array Bool→Act→World→Prop
 | 0,listed,a,w=>Region.ready md ops listed=[]∧Q .normal a w
 | fuel+1,listed,a,w=>
  (Region.ready md ops listed=[]→Q .normal a w)∧
  ∀ i∈Region.ready md ops listed,wpOp P ops Q i (fun a' w'=>S ((listed.setIfInBounds i true).getD k0 true) w'∧z5x P md ops Q k0 S fuel (listed.setIfInBounds i true) a' w') a w
theorem z9i:∀ (fuel:Nat) (listed:Array Bool) (a:Act) (w:World),z5x P md ops Q k0 S fuel listed a w→wpAny P md ops Q fuel listed a w
 | 0,_,_,_,h=>h
 | fuel+1,_,_,_,h=>⟨h.1,fun i hi=>wpOp_mono (fun a' w' h'=>z9i fuel _ a' w' h'.2) (h.2 i hi)⟩
def pwaitB (md:Region.Mode) (ops:Array Oper) (k0 i:Nat):Bool:=match ops[k0]? with | some o=>o.after.any fun e=>Region.binds md e&&e.on==i | none=>false
theorem wpAnyS_first {Y:World→Prop} {i:Nat} {oi:Oper} {v:Value} (hi:ops[i]?=some oi) (hsel:∀ (j:Nat) (o:Oper) cs b,ops[j]?=some o→o.op≠.select cs b)
  (hQ:∀ c a w,Q (.panic c) (a.put oi.dst v) w→Q (.panic c) a w) (hik:i≠k0) (hY0:∀ w,S false w→Y w) (hW:pwaitB md ops k0 i=true∨∀ w,S true w→Y w) :
  ∀ (fuel:Nat) (listed:Array Bool) (a:Act) (w:World),
   (∀ j oj,ops[j]?=some oj→j≠i→listed.getD j true=false→(∀ e∈oj.after,Region.binds md e=true→e.on≠i)→oi.apart ops oj=true)→
   i∈Region.ready md ops listed→YieldsIf P ops Y oi v a→S (listed.getD k0 true) w→(listed.getD k0 true=false∨∀ w,S true w→Y w)→
   z5x P md ops Q k0 S fuel (listed.setIfInBounds i true) (a.put oi.dst v) w→z5x P md ops Q k0 S (fuel+1) listed a w:=by
 have hY:∀ (b:Bool),(b=false∨∀ w,S true w→Y w)→∀ w,S b w→Y w:=fun b hb w h=>by
  cases b
  ·exact hY0 w h
  ·rcases hb with e | e
   ·cases e
   ·exact e w h
 intro fuel
 induction fuel with
 | zero=>
  intro listed a w _ hr hy hS hI H
  refine⟨fun h=>(by rw[h] at hr;cases hr),fun j hj=>?_⟩
  by_cases hji:j=i
  ·subst hji;exact hy.wpOp hi (hY _ hI w hS) ⟨by rw[getD_set_ne true hik];exact hS,H⟩
  ·have:=ready_mono hj hji
   rw[H.1] at this
   cases this
 | succ fuel ih=>
  intro listed a w hfree hr hy hS hI H
  refine⟨fun h=>(by rw[h] at hr;cases hr),fun j hj=>?_⟩
  by_cases hji:j=i
  ·subst hji;exact hy.wpOp hi (hY _ hI w hS) ⟨by rw[getD_set_ne true hik];exact hS,H⟩
  ·have h1:=H.2 j (ready_mono hj hji)
   obtain⟨hjun,oj,hoj,hall⟩:=mem_ready.1 hj
   have hnot:∀ e∈oj.after,Region.binds md e=true→e.on≠i:=fun e he hb heq=>by
    have h1:=hall e he hb
    have h0:=(mem_ready.1 hr).1
    rw[heq] at h1
    rcases Nat.lt_or_ge i listed.size with h' | h'
    ·simp[h'] at h0 h1;rw[h0] at h1;cases h1
    ·simp[Array.getElem?_eq_none h'] at h1
   have hI':(listed.setIfInBounds j true).getD k0 true=false∨∀ w,S true w→Y w:=by
    rcases hW with hw | hw
    ·rcases hI with e | e
     ·left
      by_cases hjk:j=k0
      ·exfalso
       subst hjk
       unfold pwaitB at hw
       rw[hoj] at hw
       simp only[Array.any_eq_true,Bool.and_eq_true,beq_iff_eq] at hw
       obtain⟨n,hn,q1,q2⟩:=hw
       exact hnot _ (Array.getElem_mem hn) q1 q2
      ·rw[getD_set_ne true hjk];exact e
     ·exact Or.inr e
    ·exact Or.inr hw
   have h2:=wpOp_putIf (S:=Y) hoj (hfree j oj hoj hji hjun hnot) (fun cs b=>hsel i oi cs b hi) (fun cs b=>hsel j oj cs b hoj) hQ hy h1
   have hfree':∀ k ok,ops[k]?=some ok→k≠i→(listed.setIfInBounds j true).getD k true=false→
     (∀ e∈ok.after,Region.binds md e=true→e.on≠i)→oi.apart ops ok=true:=fun k ok hk hki hun hno=>by
    refine hfree k ok hk hki ?_ hno
    by_cases hjk:j=k
    ·subst hjk;exact hjun
    ·rw[getD_set_ne true hjk] at hun;exact hun
   refine wpOp_mono (fun a' w' h3=>?_) h2
   have e1:((listed.setIfInBounds i true).setIfInBounds j true).getD k0 true=(listed.setIfInBounds j true).getD k0 true:=by
    rw[Array.setIfInBounds_comm _ _ (Ne.symm hji),getD_set_ne true hik]
   have h4:S ((listed.setIfInBounds j true).getD k0 true) w':=by rw[← e1];exact h3.2.1
   refine⟨h4,ih (listed.setIfInBounds j true) a' w' hfree' (ready_mono hr (Ne.symm hji)) h3.1 h4 hI' ?_⟩
   rw[Array.setIfInBounds_comm _ _ hji]
   exact h3.2.2
theorem ptake (i:Nat) (d:Option Tmp) {Y:World→Prop} {oi:Oper} {v:Value} {fuel:Nat} {listed:Array Bool} {a:Act} {w:World} (hi:ops[i]?=some oi) (hd:oi.dst=d)
  (hs:Region.noSelect ops=true) (hf:Region.free md ops listed i=true) (hr:(Region.ready md ops listed).contains i=true) (hik:i≠k0) (hl:listed.getD k0 true=false)
  (hQ:∀ c a w,Q (.panic c) (a.put oi.dst v) w→Q (.panic c) a w) (hY0:∀ w,S false w→Y w) (hW:pwaitB md ops k0 i=true∨∀ w,S true w→Y w) (hy:YieldsIf P ops Y oi v a) (hS:S false w)
  (h:z5x P md ops Q k0 S fuel (listed.setIfInBounds i true) (a.put d v) w):z5x P md ops Q k0 S (fuel+1) listed a w:=by
 subst hd
 exact wpAnyS_first hi (Region.noSelect_spec hs) hQ hik hY0 hW fuel listed a w (Region.free_spec hi hf) (by simpa using hr) hy (by rw[hl];exact hS) (Or.inl hl) h
theorem z2e (i:Nat) (d:Option Tmp) {oi:Oper} {v:Value} {fuel:Nat} {listed:Array Bool} {a:Act} {w:World} (hi:ops[i]?=some oi) (hd:oi.dst=d)
  (hs:Region.noSelect ops=true) (hf:Region.free md ops listed i=true) (hr:(Region.ready md ops listed).contains i=true) (hik:(i==k0)=false) (hl:listed.getD k0 true=false)
  (hQ:∀ c a w,Q (.panic c) (a.put oi.dst v) w→Q (.panic c) a w) (hW:pwaitB md ops k0 i=true) (hy:YieldsIf P ops (S false) oi v a) (hS:S false w)
  (h:z5x P md ops Q k0 S fuel (listed.setIfInBounds i true) (a.put d v) w):z5x P md ops Q k0 S (fuel+1) listed a w:=
 ptake i d hi hd hs hf hr (by simpa using hik) hl hQ (fun _ h=>h) (Or.inl hW) hy hS h
theorem z8y (i:Nat) (d:Option Tmp) {oi:Oper} {v:Value} {fuel:Nat} {listed:Array Bool} {a:Act} {w:World} (hi:ops[i]?=some oi) (hd:oi.dst=d)
  (hs:Region.noSelect ops=true) (hf:Region.free md ops listed i=true) (hr:(Region.ready md ops listed).contains i=true) (hik:(i==k0)=false)
  (hQ:∀ c a w,Q (.panic c) (a.put oi.dst v) w→Q (.panic c) a w) (hy:YieldsIf P ops (fun _=>True) oi v a) (hS:S (listed.getD k0 true) w)
  (h:z5x P md ops Q k0 S fuel (listed.setIfInBounds i true) (a.put d v) w):z5x P md ops Q k0 S (fuel+1) listed a w:=by
 subst hd
 exact wpAnyS_first (Y:=fun _=>True) hi (Region.noSelect_spec hs) hQ (by simpa using hik) (fun _ _=>trivial) (Or.inr fun _ _=>trivial) fuel listed a w (Region.free_spec hi hf) (by simpa using hr) hy hS (Or.inr fun _ _=>trivial) h
theorem pcall (i:Nat) (d:Option Tmp) (f:FuncId) (args:Array Value) {o:Oper} {fuel:Nat} {listed:Array Bool} {a:Act} {w:World} (hi:ops[i]?=some o) (hd:o.dst=d)
  (hw:Region.wanted o (yielded ops a.tmps)=true) (hr:Region.ready md ops listed=[i]) (hx:(execOp a.eval o).run P w=.ok (.enter f args) w)
  (hc:Calls P f args w fun e w'=>∃ v,e=.returned v∧S ((listed.setIfInBounds i true).getD k0 true) w'∧z5x P md ops Q k0 S fuel (listed.setIfInBounds i true) (a.put d v) w'):z5x P md ops Q k0 S (fuel+1) listed a w:=by
 subst hd
 refine⟨fun h=>(by rw[hr] at h;cases h),fun j hj=>?_⟩
 rw[hr] at hj
 have:j=i:=by simpa using hj
 subst this
 unfold wpOp
 simp only[hi]
 rw[if_pos hw]
 refine Or.inl ?_
 unfold Oper.wp
 rw[hx]
 refine Calls.mono hc ?_
 rintro e w' ⟨v,rfl,h3,h4⟩
 exact⟨h3,h4⟩
theorem pskip (i:Nat) (d:Option Tmp) {o:Oper} {fuel:Nat} {listed:Array Bool} {a:Act} {w w':World} (hi:ops[i]?=some o) (hd:o.dst=d)
  (hw:Region.wanted o (yielded ops a.tmps)=true) (hr:Region.ready md ops listed=[i]) (hx:(execOp a.eval o).run P w=.ok .skip w') (hS:S ((listed.setIfInBounds i true).getD k0 true) w')
  (h:z5x P md ops Q k0 S fuel (listed.setIfInBounds i true) (a.put d undef) w'):z5x P md ops Q k0 S (fuel+1) listed a w:=by
 subst hd
 refine⟨fun h=>(by rw[hr] at h;cases h),fun j hj=>?_⟩
 rw[hr] at hj
 have:j=i:=by simpa using hj
 subst this
 unfold wpOp
 simp only[hi]
 rw[if_pos hw]
 refine Or.inl ?_
 unfold Oper.wp
 rw[hx]
 exact⟨hS,h⟩
theorem pdone {listed:Array Bool} {a:Act} {w:World} (hr:Region.ready md ops listed=[]) (h:Q .normal a w):∀ fuel,z5x P md ops Q k0 S fuel listed a w
 | 0=>⟨hr,h⟩
 | _+1=>⟨fun _=>h,by rw[hr];simp⟩
theorem wp_region_phase (k0:Nat) (S:Bool→World→Prop) {id:Nat} {a:Act} {w:World} (hm:P.follows .mixedOrders=true) (hS:S false w.drew)
  (h:S false w.drew→z5x P .any ops (NoPanic Q) k0 S ops.size (Array.replicate ops.size false) a w.drew):(Code.region id ops true).wp P Q a w:=
 wp_region_noPanic (wp_region_any hm (z9i _ _ _ _ (h hS)))
end
end
theorem add_came (b o i:Nat):(⟨b,o,none⟩:Addr).add i=⟨b,o+i,none⟩:=by
 unfold Addr.add
 split
 ·rename_i h;subst h;rfl
 ·rfl
theorem z9d {a:Option Addr} {n cap:Nat} {zs:List Int} {w:World}
  (hz:(a=none∧n=0∧cap=0∧zs=[])∨∃ q,a=some q∧n≤cap∧cap≤maxLen∧zs.length=cap∧(∀ i,i<zs.length→w.cell? (q.add i)=some (.int .u32 (zs.getD i 0)))∧∀ z∈zs,(Lit.int .u32 z).wf=true) :
  ∃ b off,n≤maxLen∧(0<n→a=some ⟨b,off,none⟩∧b<w.heap.size)∧(∀ i,i<n→w.cell? ⟨b,off+i,none⟩=some (.int .u32 (zs.getD i 0)))∧∀ z∈zs,U32 z:=by
 rcases hz with ⟨rfl,rfl,rfl,rfl⟩ | ⟨q,rfl,hl,hmc,hzl,hcell,hwz⟩
 ·exact⟨0,0,Nat.zero_le _,fun h=>absurd h (by omega),fun i hi=>absurd hi (by omega),fun z hzz=>by cases hzz⟩
 ·have hU:∀ z∈zs,U32 z:=fun z hzz=>u32_of (bounds_u32 (hwz z hzz))
  by_cases hn:n=0
  ·subst hn
   exact⟨0,0,Nat.zero_le _,fun h=>absurd h (by omega),fun i hi=>absurd hi (by omega),hU⟩
  ·obtain⟨c,off',spot⟩:=q
   have hc:=hcell 0 (by omega)
   have hspot:spot=none:=by simpa [Addr.add] using World.cell?_spot hc
   subst hspot
   have hb:c<w.heap.size:=by simpa [Addr.add] using World.block_lt_of_cell? _ _ hc
   exact⟨c,off',by omega,fun _=>⟨rfl,hb⟩,fun i hi=>by have:=hcell i (by omega);rwa [add_came] at this,hU⟩
end Go.Proofs.YtilcoimelnpkeaaGreatDoor
