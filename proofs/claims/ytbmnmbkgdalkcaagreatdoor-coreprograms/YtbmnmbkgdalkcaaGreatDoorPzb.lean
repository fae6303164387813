/-
  Contracts of functions that the statement reaches, and what they are made of, callees first.
-/
import Derived.Deep.OwnRows
import Derived.Laws.CopyOwn
import Derived.Laws.StructEq
import Derived.Test.YtbmnmbkgdalkcaaGreatDoorPza
set_option maxRecDepth 100000
set_option maxHeartbeats 8000000
namespace Go.Proofs.YtbmnmbkgdalkcaaGreatDoor
open Go.RowKit
section
def rv (f:Nat→Int) (u:Bool) (i:Nat):Value:=if i=33 then .bool u else .int .u32 (f i)
def z0c (f:Nat→Int) (u:Bool):Array Value:=((List.range 57).map (rv f u)).toArray
theorem z0b (f:Nat→Int) (u:Bool):(z0c f u).size=57:=by simp[z0c]
theorem z2d (f:Nat→Int) (u:Bool) (i:Nat) (h:i<57):(z0c f u)[i]?=some (rv f u i):=by simp[z0c,h]
theorem z0s (f:Nat→Int) (u:Bool):(z0c f u).all (·.oneCell')=true:=by
 rw[Array.all_eq_true]
 intro i hi
 have h1:i<57:=by rwa [z0b] at hi
 have h2:=z2d f u i h1
 rw[Array.getElem?_eq_getElem hi,Option.some.injEq] at h2
 rw[h2]
 unfold rv
 split <;> rfl
def set1 (f:Nat→Int) (i:Nat) (x:Int) (j:Nat):Int:=if j=i then x else f j
theorem z5k {f g:Nat→Int} {u:Bool} (h:∀ i,i<57→i≠33→f i=g i):z0c f u=z0c g u:=by
 unfold z0c
 congr 1
 apply List.map_congr_left
 intro i hi
 unfold rv
 by_cases h3:i=33
 ·rw[if_pos h3,if_pos h3]
 ·rw[if_neg h3,if_neg h3,h i (by simpa using hi) h3]
theorem regs57_put (f:Nat→Int) (u:Bool) (i:Nat) (x:Int) (hi:i≠33):(z0c f u).setIfInBounds i (.int .u32 x)=z0c (set1 f i x) u:=by
 apply Array.ext_getElem?
 intro j
 rw[Array.getElem?_setIfInBounds]
 by_cases hj:j<57
 ·by_cases hij:i=j
  ·subst hij
   rw[if_pos rfl,z0b,if_pos hj,z2d _ _ i hj]
   simp[rv,set1,hi]
  ·rw[if_neg hij,z2d _ _ j hj,z2d _ _ j hj]
   simp[rv,set1,Ne.symm hij]
 ·have h1:(z0c f u)[j]?=none:=by rw[Array.getElem?_eq_none_iff,z0b];omega
  have h2:(z0c (set1 f i x) u)[j]?=none:=by rw[Array.getElem?_eq_none_iff,z0b];omega
  rw[h1,h2]
  by_cases hij:i=j
  ·subst hij
   rw[if_pos rfl,z0b,if_neg hj]
  ·rw[if_neg hij]
theorem regs57_user (f:Nat→Int) (u v:Bool):(z0c f u).setIfInBounds 33 (.bool v)=z0c f v:=by
 apply Array.ext_getElem?
 intro j
 rw[Array.getElem?_setIfInBounds]
 by_cases hj:j<57
 ·by_cases hij:33=j
  ·subst hij
   rw[if_pos rfl,z0b,if_pos hj,z2d _ _ 33 hj]
   rfl
  ·rw[if_neg hij,z2d _ _ j hj,z2d _ _ j hj]
   simp[rv,Ne.symm hij]
 ·have h1:(z0c f u)[j]?=none:=by rw[Array.getElem?_eq_none_iff,z0b];omega
  have h2:(z0c f v)[j]?=none:=by rw[Array.getElem?_eq_none_iff,z0b];omega
  rw[h1,h2,if_neg (by omega)]
theorem z8d:(#[.int .u32 0,.int .u32 0,.int .u32 0,.int .u32 0,.int .u32 0,.int .u32 0,.int .u32 0,.int .u32 0,.int .u32 0,.int .u32 0,.int .u32 0,.int .u32 0,.int .u32 0,.int .u32 0,.int .u32 0,.int .u32 0,.int .u32 0,.int .u32 0,.int .u32 0,.int .u32 0,.int .u32 0,.int .u32 0,.int .u32 0,.int .u32 0,.int .u32 0,.int .u32 0,.int .u32 0,.int .u32 0,.int .u32 0,.int .u32 0,.int .u32 0,.int .u32 0,.int .u32 0,.bool false,.int .u32 0,.int .u32 0,.int .u32 0,.int .u32 0,.int .u32 0,.int .u32 0,.int .u32 0,.int .u32 0,.int .u32 0,.int .u32 0,.int .u32 0,.int .u32 0,.int .u32 0,.int .u32 0,.int .u32 0,.int .u32 0,.int .u32 0,.int .u32 0,.int .u32 0,.int .u32 0,.int .u32 0,.int .u32 0,.int .u32 0]:Array Value)=z0c (fun _=>0) false:=rfl
theorem z0o:(Tryz.prog.info? 32).map (·.size)=some 57:=by kernel_rfl
theorem z3f:∃ fs,Tryz.prog.underlying 32=some (.struct fs):=⟨_,Tryz.underlying32⟩
theorem z3r (f:Nat→Int) (u:Bool) (w:World):(Instr.box 32 (.agg (z0c f u))).run Tryz.prog w=.ok (.pointer (some ⟨w.heap.size,0,none⟩)) (w.alloc (.cells (z0c f u) 32)):=by kernel_rfl
section
variable {ops:Array Oper} {rest:List Oper} {o:Oper} {a:Act} {w:World} {Q:Exit→Act→World→Prop}
theorem z0k (hgd:o.guard=none) {x:Operand} (ho:o.op=.load 28 x) {b i:Nat} (hx:a.eval x=.pointer (some ⟨b,i,none⟩)) {f:Nat→Int} {u:Bool} {t:TypeId} (hw:w.heap[b]?=some (.cells (z0c f u) t)) (hi:i<57) (h3:i≠33)
  (h:wpList Tryz.prog ops Q rest (a.put o.dst (.int .u32 (f i))) w):wpList Tryz.prog ops Q (o::rest) a w:=
 z8k hgd ho hx hw (by rw[z2d f u i hi];unfold rv;rw[if_neg h3]) h
theorem z1h (hgd:o.guard=none) {x:Operand} (ho:o.op=.load 4 x) {b:Nat} (hx:a.eval x=.pointer (some ⟨b,33,none⟩)) {f:Nat→Int} {u:Bool} {t:TypeId} (hw:w.heap[b]?=some (.cells (z0c f u) t))
  (h:wpList Tryz.prog ops Q rest (a.put o.dst (.bool u)) w):wpList Tryz.prog ops Q (o::rest) a w:=
 wpList_load_bool hgd ho hx hw rfl h
theorem z0h (hgd:o.guard=none) {x y:Operand} (ho:o.op=.store 28 x y) {b i:Nat} (hx:a.eval x=.pointer (some ⟨b,i,none⟩)) {n:Int} (hy:a.eval y=.int .u32 n) {f:Nat→Int} {u:Bool} {t:TypeId} (hw:w.heap[b]?=some (.cells (z0c f u) t)) (hi:i<57) (h3:i≠33)
  (h:∀ w',w'.heap[b]?=some (.cells (z0c (set1 f i n) u) t)→(∀ k,k≠b→w'.heap[k]?=w.heap[k]?)→(∀ (B:Nat) (w0:World),B≤b→Below B w0 w→Below B w0 w')→wpList Tryz.prog ops Q rest (a.put o.dst undef) w'):wpList Tryz.prog ops Q (o::rest) a w:=
 wpList_store_u32 hgd ho hx hy hw (z2d f u i hi) fun w' hW=>h w' (by rw[← regs57_put f u i n h3];exact hW.block) hW.other hW.below
theorem z0z (hgd:o.guard=none) {x y:Operand} (ho:o.op=.store 4 x y) {b:Nat} (hx:a.eval x=.pointer (some ⟨b,33,none⟩)) {n:Bool} (hy:a.eval y=.bool n) {f:Nat→Int} {u:Bool} {t:TypeId} (hw:w.heap[b]?=some (.cells (z0c f u) t))
  (h:∀ w',w'.heap[b]?=some (.cells (z0c f n) t)→(∀ k,k≠b→w'.heap[k]?=w.heap[k]?)→(∀ (B:Nat) (w0:World),B≤b→Below B w0 w→Below B w0 w')→wpList Tryz.prog ops Q rest (a.put o.dst undef) w'):wpList Tryz.prog ops Q (o::rest) a w:=
 wpList_store_bool hgd ho hx hy hw (z2d f u 33 (by decide)) fun w' hW=>h w' (by rw[← regs57_user f u n];exact hW.block) hW.other hW.below
end
def z9m (s:Int) (u:Bool):Int:=
 if u then (if z0j s 3 1=1 then bits .or .u32 (bits .andNot .u32 s 6280) 128 else bits .andNot .u32 s 6280)
 else bits .or .u32 (if z0j s 3 1=1 then bits .or .u32 (bits .andNot .u32 s 6280) 128 else bits .andNot .u32 s 6280) 6144
def z5i (f:Nat→Int) (u:Bool) (c v:Int) (i:Nat):Int:=
 if i=32 then f 36 else if i=34 then z9m (f 34) u else if i=38 then f 32 else if i=39 then c else if i=40 then v else f i
def retS (s:Int):Int:=if z0j s 7 1=1 then bits .or .u32 (bits .or .u32 (bits .andNot .u32 s 6152) 128) 8 else bits .or .u32 (bits .andNot .u32 s 6152) 128
def retF (f:Nat→Int) (i:Nat):Int:=if i=32 then f 38 else if i=34 then retS (f 34) else f i
def retU (f:Nat→Int):Bool:=z0j (f 34) 11 1==0
theorem ret57 {f g:Nat→Int} {u v:Bool} (h:∀ i,i<57→i≠33→f i=g i) (hu:u=v):Ending.returned (.agg (z0c f u))=.returned (.agg (z0c g v)):=by rw[z5k h,hu]
theorem rRet (f:Nat→Int) (u:Bool) (hu:∀ i,U32 (f i)) (w:World) :
  Calls Tryz.prog 58 #[.agg (z0c f u)] w fun e w'=>e=.returned (.agg (z0c (retF f) (retU f)))∧Below w.heap.size w w':=by
 have HB7:Hid _:=z4k (f 34) 7 1 (hu 34)
 have HB11:Hid _:=z4k (f 34) 11 1 (hu 34)
 have hbox:=z3r f u
 obtain⟨fs,hfs⟩:=z3f
 have HS:Hid _:=hfs
 clear hfs
 have H0:Hid (∀ Z,((w.alloc (.cells (z0c f u) 32)).alloc Z).heap[w.heap.size]?=some (.cells (z0c f u) 32)):=fun Z=>z0m ((Below.refl _ _).alloc (Nat.le_refl _) _)
 have Z0:Hid (∀ Z,((w.alloc (.cells (z0c f u) 32)).alloc Z).heap[w.heap.size+1]?=some Z):=fun Z=>by have:=z0g (w.alloc (.cells (z0c f u) 32)) Z;rwa [World.size_alloc] at this
 have HU:Hid (retU f=(z0j (f 34) 11 1==0)):=rfl
 have HR:Hid (retS (f 34)=if z0j (f 34) 7 1=1 then bits .or .u32 (bits .or .u32 (bits .andNot .u32 (f 34) 6152) 128) 8 else bits .or .u32 (bits .andNot .u32 (f 34) 6152) 128):=rfl
 clear hu
 generalize z0j (f 34) 7 1=y7 at *
 generalize z0j (f 34) 11 1=y11 at *
 by_cases h7:y7=1
 ·have b7:(y7==1)=true:=by simpa using h7
  have e7:=HR.out
  rw[if_pos h7] at e7
  have HE:Hid _:=e7
  clear HR h7 e7
  go_enter Tryz.func58,Tryz.ntmps58
  go_wp2_with (first | (refine z0k rfl rfl rfl (by assumption) (by decide) (by decide) ?_) | (refine z0k rfl rfl rfl (H0.out _) (by decide) (by decide) ?_) | (refine z1h rfl rfl rfl (by assumption) ?_) | (refine z0h rfl rfl rfl rfl (by assumption) (by decide) (by decide) ?_;intro wn HBn HO HL;have HZn:=Eq.trans (HO (w.heap.size+1) (by omega)) (by assumption);have HLn:=HL w.heap.size w (Nat.le_refl _) (by assumption);clear HO HL) | (refine z0h rfl rfl rfl rfl (H0.out _) (by decide) (by decide) ?_;intro wn HBn HO HL;have HZn:=Eq.trans (HO (w.heap.size+1) (by omega)) (Z0.out _);have HLn:=HL w.heap.size w (Nat.le_refl _) box2;clear HO HL) | (refine z0z rfl rfl rfl rfl (by assumption) ?_;intro wn HBn HO HL;have HZn:=Eq.trans (HO (w.heap.size+1) (by omega)) (by assumption);have HLn:=HL w.heap.size w (Nat.le_refl _) (by assumption);clear HO HL) | (refine wpList_load_row rfl 32 (.tmp 1) rfl _ rfl _ _ _ _ (by assumption) HS.out rfl (by rw[z0b];exact z0o) ?_) | (refine wpList_store_row rfl 32 (.tmp 2) (.tmp 24) rfl _ (z0c _ _) rfl rfl _ _ (by assumption) (by rw[z0b];exact z0o) (by rw[z0b];rfl) (z0s _ _) ?_))
  refine (HB7.out _).mono ?_
  rintro e wq ⟨rfl,rfl⟩
  go_wp2_with (first | (refine z0k rfl rfl rfl (by assumption) (by decide) (by decide) ?_) | (refine z0k rfl rfl rfl (H0.out _) (by decide) (by decide) ?_) | (refine z1h rfl rfl rfl (by assumption) ?_) | (refine z0h rfl rfl rfl rfl (by assumption) (by decide) (by decide) ?_;intro wn HBn HO HL;have HZn:=Eq.trans (HO (w.heap.size+1) (by omega)) (by assumption);have HLn:=HL w.heap.size w (Nat.le_refl _) (by assumption);clear HO HL) | (refine z0h rfl rfl rfl rfl (H0.out _) (by decide) (by decide) ?_;intro wn HBn HO HL;have HZn:=Eq.trans (HO (w.heap.size+1) (by omega)) (Z0.out _);have HLn:=HL w.heap.size w (Nat.le_refl _) box2;clear HO HL) | (refine z0z rfl rfl rfl rfl (by assumption) ?_;intro wn HBn HO HL;have HZn:=Eq.trans (HO (w.heap.size+1) (by omega)) (by assumption);have HLn:=HL w.heap.size w (Nat.le_refl _) (by assumption);clear HO HL) | (refine wpList_load_row rfl 32 (.tmp 1) rfl _ rfl _ _ _ _ (by assumption) HS.out rfl (by rw[z0b];exact z0o) ?_) | (refine wpList_store_row rfl 32 (.tmp 2) (.tmp 24) rfl _ (z0c _ _) rfl rfl _ _ (by assumption) (by rw[z0b];exact z0o) (by rw[z0b];rfl) (z0s _ _) ?_))
  refine (HB11.out _).mono ?_
  rintro e wq ⟨rfl,rfl⟩
  go_wp2_with (first | (refine z0k rfl rfl rfl (by assumption) (by decide) (by decide) ?_) | (refine z0k rfl rfl rfl (H0.out _) (by decide) (by decide) ?_) | (refine z1h rfl rfl rfl (by assumption) ?_) | (refine z0h rfl rfl rfl rfl (by assumption) (by decide) (by decide) ?_;intro wn HBn HO HL;have HZn:=Eq.trans (HO (w.heap.size+1) (by omega)) (by assumption);have HLn:=HL w.heap.size w (Nat.le_refl _) (by assumption);clear HO HL) | (refine z0h rfl rfl rfl rfl (H0.out _) (by decide) (by decide) ?_;intro wn HBn HO HL;have HZn:=Eq.trans (HO (w.heap.size+1) (by omega)) (Z0.out _);have HLn:=HL w.heap.size w (Nat.le_refl _) box2;clear HO HL) | (refine z0z rfl rfl rfl rfl (by assumption) ?_;intro wn HBn HO HL;have HZn:=Eq.trans (HO (w.heap.size+1) (by omega)) (by assumption);have HLn:=HL w.heap.size w (Nat.le_refl _) (by assumption);clear HO HL) | (refine wpList_load_row rfl 32 (.tmp 1) rfl _ rfl _ _ _ _ (by assumption) HS.out rfl (by rw[z0b];exact z0o) ?_) | (refine wpList_store_row rfl 32 (.tmp 2) (.tmp 24) rfl _ (z0c _ _) rfl rfl _ _ (by assumption) (by rw[z0b];exact z0o) (by rw[z0b];rfl) (z0s _ _) ?_))
  refine bodyPost_ret (results_cell_row rfl _ _ _ _ _ _ _ rfl (setRow_heap _ _ _ _ _ _ (by assumption)) HS.out rfl (by rw[z0b];exact z0o)) rfl ⟨ret57 (fun i _ _=>?_) ?_,below_setRow (by assumption) (Nat.le_succ _) _⟩
  ·unfold retF
   rw[HE.out]
   by_cases a1:i=32
   ·subst a1;simp[set1]
   ·by_cases a2:i=34
    ·subst a2;simp[set1]
    ·simp[set1,a1,a2]
  ·exact HU.out.symm
 ·have b7:(y7==1)=false:=by simpa using h7
  have e7:=HR.out
  rw[if_neg h7] at e7
  have HE:Hid _:=e7
  clear HR h7 e7
  go_enter Tryz.func58,Tryz.ntmps58
  go_wp2_with (first | (refine z0k rfl rfl rfl (by assumption) (by decide) (by decide) ?_) | (refine z0k rfl rfl rfl (H0.out _) (by decide) (by decide) ?_) | (refine z1h rfl rfl rfl (by assumption) ?_) | (refine z0h rfl rfl rfl rfl (by assumption) (by decide) (by decide) ?_;intro wn HBn HO HL;have HZn:=Eq.trans (HO (w.heap.size+1) (by omega)) (by assumption);have HLn:=HL w.heap.size w (Nat.le_refl _) (by assumption);clear HO HL) | (refine z0h rfl rfl rfl rfl (H0.out _) (by decide) (by decide) ?_;intro wn HBn HO HL;have HZn:=Eq.trans (HO (w.heap.size+1) (by omega)) (Z0.out _);have HLn:=HL w.heap.size w (Nat.le_refl _) box2;clear HO HL) | (refine z0z rfl rfl rfl rfl (by assumption) ?_;intro wn HBn HO HL;have HZn:=Eq.trans (HO (w.heap.size+1) (by omega)) (by assumption);have HLn:=HL w.heap.size w (Nat.le_refl _) (by assumption);clear HO HL) | (refine wpList_load_row rfl 32 (.tmp 1) rfl _ rfl _ _ _ _ (by assumption) HS.out rfl (by rw[z0b];exact z0o) ?_) | (refine wpList_store_row rfl 32 (.tmp 2) (.tmp 24) rfl _ (z0c _ _) rfl rfl _ _ (by assumption) (by rw[z0b];exact z0o) (by rw[z0b];rfl) (z0s _ _) ?_))
  refine (HB7.out _).mono ?_
  rintro e wq ⟨rfl,rfl⟩
  go_wp2_with (first | (refine z0k rfl rfl rfl (by assumption) (by decide) (by decide) ?_) | (refine z0k rfl rfl rfl (H0.out _) (by decide) (by decide) ?_) | (refine z1h rfl rfl rfl (by assumption) ?_) | (refine z0h rfl rfl rfl rfl (by assumption) (by decide) (by decide) ?_;intro wn HBn HO HL;have HZn:=Eq.trans (HO (w.heap.size+1) (by omega)) (by assumption);have HLn:=HL w.heap.size w (Nat.le_refl _) (by assumption);clear HO HL) | (refine z0h rfl rfl rfl rfl (H0.out _) (by decide) (by decide) ?_;intro wn HBn HO HL;have HZn:=Eq.trans (HO (w.heap.size+1) (by omega)) (Z0.out _);have HLn:=HL w.heap.size w (Nat.le_refl _) box2;clear HO HL) | (refine z0z rfl rfl rfl rfl (by assumption) ?_;intro wn HBn HO HL;have HZn:=Eq.trans (HO (w.heap.size+1) (by omega)) (by assumption);have HLn:=HL w.heap.size w (Nat.le_refl _) (by assumption);clear HO HL) | (refine wpList_load_row rfl 32 (.tmp 1) rfl _ rfl _ _ _ _ (by assumption) HS.out rfl (by rw[z0b];exact z0o) ?_) | (refine wpList_store_row rfl 32 (.tmp 2) (.tmp 24) rfl _ (z0c _ _) rfl rfl _ _ (by assumption) (by rw[z0b];exact z0o) (by rw[z0b];rfl) (z0s _ _) ?_))
  refine (HB11.out _).mono ?_
  rintro e wq ⟨rfl,rfl⟩
  go_wp2_with (first | (refine z0k rfl rfl rfl (by assumption) (by decide) (by decide) ?_) | (refine z0k rfl rfl rfl (H0.out _) (by decide) (by decide) ?_) | (refine z1h rfl rfl rfl (by assumption) ?_) | (refine z0h rfl rfl rfl rfl (by assumption) (by decide) (by decide) ?_;intro wn HBn HO HL;have HZn:=Eq.trans (HO (w.heap.size+1) (by omega)) (by assumption);have HLn:=HL w.heap.size w (Nat.le_refl _) (by assumption);clear HO HL) | (refine z0h rfl rfl rfl rfl (H0.out _) (by decide) (by decide) ?_;intro wn HBn HO HL;have HZn:=Eq.trans (HO (w.heap.size+1) (by omega)) (Z0.out _);have HLn:=HL w.heap.size w (Nat.le_refl _) box2;clear HO HL) | (refine z0z rfl rfl rfl rfl (by assumption) ?_;intro wn HBn HO HL;have HZn:=Eq.trans (HO (w.heap.size+1) (by omega)) (by assumption);have HLn:=HL w.heap.size w (Nat.le_refl _) (by assumption);clear HO HL) | (refine wpList_load_row rfl 32 (.tmp 1) rfl _ rfl _ _ _ _ (by assumption) HS.out rfl (by rw[z0b];exact z0o) ?_) | (refine wpList_store_row rfl 32 (.tmp 2) (.tmp 24) rfl _ (z0c _ _) rfl rfl _ _ (by assumption) (by rw[z0b];exact z0o) (by rw[z0b];rfl) (z0s _ _) ?_))
  refine bodyPost_ret (results_cell_row rfl _ _ _ _ _ _ _ rfl (setRow_heap _ _ _ _ _ _ (by assumption)) HS.out rfl (by rw[z0b];exact z0o)) rfl ⟨ret57 (fun i _ _=>?_) ?_,below_setRow (by assumption) (Nat.le_succ _) _⟩
  ·unfold retF
   rw[HE.out]
   by_cases a1:i=32
   ·subst a1;simp[set1]
   ·by_cases a2:i=34
    ·subst a2;simp[set1]
    ·simp[set1,a1,a2]
  ·exact HU.out.symm
end
theorem rTrap_true (f:Nat→Int) (c v:Int) (hu:∀ i,U32 (f i)) (w:World) :
  Calls Tryz.prog 29 #[.agg (z0c f true),.int .u32 c,.int .u32 v] w fun e w'=>e=.returned (.agg (z0c (z5i f true c v) false))∧Below w.heap.size w w':=by
 have HB3:Hid _:=z4k (f 34) 3 1 (hu 34)
 have hbox:=z3r f true
 obtain⟨fs,hfs⟩:=z3f
 have HS:Hid _:=hfs
 clear hfs
 have H0:Hid (∀ Z,((w.alloc (.cells (z0c f true) 32)).alloc Z).heap[w.heap.size]?=some (.cells (z0c f true) 32)):=fun Z=>z0m ((Below.refl _ _).alloc (Nat.le_refl _) _)
 have Z0:Hid (∀ Z,((w.alloc (.cells (z0c f true) 32)).alloc Z).heap[w.heap.size+1]?=some Z):=fun Z=>by have:=z0g (w.alloc (.cells (z0c f true) 32)) Z;rwa [World.size_alloc] at this
 clear hu
 generalize hy:z0j (f 34) 3 1=y3 at *
 have HY:Hid _:=hy
 clear hy
 by_cases h3:y3=1
 ·have b3:(y3==1)=true:=by simpa using h3
  have HE:Hid (z9m (f 34) true=bits .or .u32 (bits .andNot .u32 (f 34) 6280) 128):=by
   show _=_
   unfold z9m
   rw[HY.out]
   simp[h3]
  clear HY h3
  go_enter Tryz.func29,Tryz.ntmps29
  go_wp2_with (first | (refine z0k rfl rfl rfl (by assumption) (by decide) (by decide) ?_) | (refine z0k rfl rfl rfl (H0.out _) (by decide) (by decide) ?_) | (refine z1h rfl rfl rfl (by assumption) ?_) | (refine z0h rfl rfl rfl rfl (by assumption) (by decide) (by decide) ?_;intro wn HBn HO HL;have HZn:=Eq.trans (HO (w.heap.size+1) (by omega)) (by assumption);have HLn:=HL w.heap.size w (Nat.le_refl _) (by assumption);clear HO HL) | (refine z0h rfl rfl rfl rfl (H0.out _) (by decide) (by decide) ?_;intro wn HBn HO HL;have HZn:=Eq.trans (HO (w.heap.size+1) (by omega)) (Z0.out _);have HLn:=HL w.heap.size w (Nat.le_refl _) box2;clear HO HL) | (refine z0z rfl rfl rfl rfl (by assumption) ?_;intro wn HBn HO HL;have HZn:=Eq.trans (HO (w.heap.size+1) (by omega)) (by assumption);have HLn:=HL w.heap.size w (Nat.le_refl _) (by assumption);clear HO HL) | (refine wpList_load_row rfl 32 (.tmp 3) rfl _ rfl _ _ _ _ (by assumption) HS.out rfl (by rw[z0b];exact z0o) ?_) | (refine wpList_store_row rfl 32 (.tmp 6) (.tmp 38) rfl _ (z0c _ _) rfl rfl _ _ (by assumption) (by rw[z0b];exact z0o) (by rw[z0b];rfl) (z0s _ _) ?_))
  refine (HB3.out _).mono ?_
  rintro e wq ⟨rfl,rfl⟩
  go_wp2_with (first | (refine z0k rfl rfl rfl (by assumption) (by decide) (by decide) ?_) | (refine z0k rfl rfl rfl (H0.out _) (by decide) (by decide) ?_) | (refine z1h rfl rfl rfl (by assumption) ?_) | (refine z0h rfl rfl rfl rfl (by assumption) (by decide) (by decide) ?_;intro wn HBn HO HL;have HZn:=Eq.trans (HO (w.heap.size+1) (by omega)) (by assumption);have HLn:=HL w.heap.size w (Nat.le_refl _) (by assumption);clear HO HL) | (refine z0h rfl rfl rfl rfl (H0.out _) (by decide) (by decide) ?_;intro wn HBn HO HL;have HZn:=Eq.trans (HO (w.heap.size+1) (by omega)) (Z0.out _);have HLn:=HL w.heap.size w (Nat.le_refl _) box2;clear HO HL) | (refine z0z rfl rfl rfl rfl (by assumption) ?_;intro wn HBn HO HL;have HZn:=Eq.trans (HO (w.heap.size+1) (by omega)) (by assumption);have HLn:=HL w.heap.size w (Nat.le_refl _) (by assumption);clear HO HL) | (refine wpList_load_row rfl 32 (.tmp 3) rfl _ rfl _ _ _ _ (by assumption) HS.out rfl (by rw[z0b];exact z0o) ?_) | (refine wpList_store_row rfl 32 (.tmp 6) (.tmp 38) rfl _ (z0c _ _) rfl rfl _ _ (by assumption) (by rw[z0b];exact z0o) (by rw[z0b];rfl) (z0s _ _) ?_))
  refine bodyPost_ret (results_cell_row rfl _ _ _ _ _ _ _ rfl (setRow_heap _ _ _ _ _ _ (by assumption)) HS.out rfl (by rw[z0b];exact z0o)) rfl ⟨ret57 (fun i _ _=>?_) ?_,below_setRow (by assumption) (Nat.le_succ _) _⟩
  ·unfold z5i
   rw[HE.out]
   by_cases a1:i=32
   ·subst a1;simp[set1]
   ·by_cases a2:i=34
    ·subst a2;simp[set1]
    ·by_cases a3:i=38
     ·subst a3;simp[set1]
     ·by_cases a4:i=39
      ·subst a4;simp[set1]
      ·by_cases a5:i=40
       ·subst a5;simp[set1]
       ·simp[set1,a1,a2,a3,a4,a5]
  ·rfl
 ·have b3:(y3==1)=false:=by simpa using h3
  have HE:Hid (z9m (f 34) true=bits .andNot .u32 (f 34) 6280):=by
   show _=_
   unfold z9m
   rw[HY.out]
   simp[h3]
  clear HY h3
  go_enter Tryz.func29,Tryz.ntmps29
  go_wp2_with (first | (refine z0k rfl rfl rfl (by assumption) (by decide) (by decide) ?_) | (refine z0k rfl rfl rfl (H0.out _) (by decide) (by decide) ?_) | (refine z1h rfl rfl rfl (by assumption) ?_) | (refine z0h rfl rfl rfl rfl (by assumption) (by decide) (by decide) ?_;intro wn HBn HO HL;have HZn:=Eq.trans (HO (w.heap.size+1) (by omega)) (by assumption);have HLn:=HL w.heap.size w (Nat.le_refl _) (by assumption);clear HO HL) | (refine z0h rfl rfl rfl rfl (H0.out _) (by decide) (by decide) ?_;intro wn HBn HO HL;have HZn:=Eq.trans (HO (w.heap.size+1) (by omega)) (Z0.out _);have HLn:=HL w.heap.size w (Nat.le_refl _) box2;clear HO HL) | (refine z0z rfl rfl rfl rfl (by assumption) ?_;intro wn HBn HO HL;have HZn:=Eq.trans (HO (w.heap.size+1) (by omega)) (by assumption);have HLn:=HL w.heap.size w (Nat.le_refl _) (by assumption);clear HO HL) | (refine wpList_load_row rfl 32 (.tmp 3) rfl _ rfl _ _ _ _ (by assumption) HS.out rfl (by rw[z0b];exact z0o) ?_) | (refine wpList_store_row rfl 32 (.tmp 6) (.tmp 38) rfl _ (z0c _ _) rfl rfl _ _ (by assumption) (by rw[z0b];exact z0o) (by rw[z0b];rfl) (z0s _ _) ?_))
  refine (HB3.out _).mono ?_
  rintro e wq ⟨rfl,rfl⟩
  go_wp2_with (first | (refine z0k rfl rfl rfl (by assumption) (by decide) (by decide) ?_) | (refine z0k rfl rfl rfl (H0.out _) (by decide) (by decide) ?_) | (refine z1h rfl rfl rfl (by assumption) ?_) | (refine z0h rfl rfl rfl rfl (by assumption) (by decide) (by decide) ?_;intro wn HBn HO HL;have HZn:=Eq.trans (HO (w.heap.size+1) (by omega)) (by assumption);have HLn:=HL w.heap.size w (Nat.le_refl _) (by assumption);clear HO HL) | (refine z0h rfl rfl rfl rfl (H0.out _) (by decide) (by decide) ?_;intro wn HBn HO HL;have HZn:=Eq.trans (HO (w.heap.size+1) (by omega)) (Z0.out _);have HLn:=HL w.heap.size w (Nat.le_refl _) box2;clear HO HL) | (refine z0z rfl rfl rfl rfl (by assumption) ?_;intro wn HBn HO HL;have HZn:=Eq.trans (HO (w.heap.size+1) (by omega)) (by assumption);have HLn:=HL w.heap.size w (Nat.le_refl _) (by assumption);clear HO HL) | (refine wpList_load_row rfl 32 (.tmp 3) rfl _ rfl _ _ _ _ (by assumption) HS.out rfl (by rw[z0b];exact z0o) ?_) | (refine wpList_store_row rfl 32 (.tmp 6) (.tmp 38) rfl _ (z0c _ _) rfl rfl _ _ (by assumption) (by rw[z0b];exact z0o) (by rw[z0b];rfl) (z0s _ _) ?_))
  refine bodyPost_ret (results_cell_row rfl _ _ _ _ _ _ _ rfl (setRow_heap _ _ _ _ _ _ (by assumption)) HS.out rfl (by rw[z0b];exact z0o)) rfl ⟨ret57 (fun i _ _=>?_) ?_,below_setRow (by assumption) (Nat.le_succ _) _⟩
  ·unfold z5i
   rw[HE.out]
   by_cases a1:i=32
   ·subst a1;simp[set1]
   ·by_cases a2:i=34
    ·subst a2;simp[set1]
    ·by_cases a3:i=38
     ·subst a3;simp[set1]
     ·by_cases a4:i=39
      ·subst a4;simp[set1]
      ·by_cases a5:i=40
       ·subst a5;simp[set1]
       ·simp[set1,a1,a2,a3,a4,a5]
  ·rfl
theorem rTrap_false (f:Nat→Int) (c v:Int) (hu:∀ i,U32 (f i)) (w:World) :
  Calls Tryz.prog 29 #[.agg (z0c f false),.int .u32 c,.int .u32 v] w fun e w'=>e=.returned (.agg (z0c (z5i f false c v) false))∧Below w.heap.size w w':=by
 have HB3:Hid _:=z4k (f 34) 3 1 (hu 34)
 have hbox:=z3r f false
 obtain⟨fs,hfs⟩:=z3f
 have HS:Hid _:=hfs
 clear hfs
 have H0:Hid (∀ Z,((w.alloc (.cells (z0c f false) 32)).alloc Z).heap[w.heap.size]?=some (.cells (z0c f false) 32)):=fun Z=>z0m ((Below.refl _ _).alloc (Nat.le_refl _) _)
 have Z0:Hid (∀ Z,((w.alloc (.cells (z0c f false) 32)).alloc Z).heap[w.heap.size+1]?=some Z):=fun Z=>by have:=z0g (w.alloc (.cells (z0c f false) 32)) Z;rwa [World.size_alloc] at this
 clear hu
 generalize hy:z0j (f 34) 3 1=y3 at *
 have HY:Hid _:=hy
 clear hy
 by_cases h3:y3=1
 ·have b3:(y3==1)=true:=by simpa using h3
  have HE:Hid (z9m (f 34) false=bits .or .u32 (bits .or .u32 (bits .andNot .u32 (f 34) 6280) 128) 6144):=by
   show _=_
   unfold z9m
   rw[HY.out]
   simp[h3]
  clear HY h3
  go_enter Tryz.func29,Tryz.ntmps29
  go_wp2_with (first | (refine z0k rfl rfl rfl (by assumption) (by decide) (by decide) ?_) | (refine z0k rfl rfl rfl (H0.out _) (by decide) (by decide) ?_) | (refine z1h rfl rfl rfl (by assumption) ?_) | (refine z0h rfl rfl rfl rfl (by assumption) (by decide) (by decide) ?_;intro wn HBn HO HL;have HZn:=Eq.trans (HO (w.heap.size+1) (by omega)) (by assumption);have HLn:=HL w.heap.size w (Nat.le_refl _) (by assumption);clear HO HL) | (refine z0h rfl rfl rfl rfl (H0.out _) (by decide) (by decide) ?_;intro wn HBn HO HL;have HZn:=Eq.trans (HO (w.heap.size+1) (by omega)) (Z0.out _);have HLn:=HL w.heap.size w (Nat.le_refl _) box2;clear HO HL) | (refine z0z rfl rfl rfl rfl (by assumption) ?_;intro wn HBn HO HL;have HZn:=Eq.trans (HO (w.heap.size+1) (by omega)) (by assumption);have HLn:=HL w.heap.size w (Nat.le_refl _) (by assumption);clear HO HL) | (refine wpList_load_row rfl 32 (.tmp 3) rfl _ rfl _ _ _ _ (by assumption) HS.out rfl (by rw[z0b];exact z0o) ?_) | (refine wpList_store_row rfl 32 (.tmp 6) (.tmp 38) rfl _ (z0c _ _) rfl rfl _ _ (by assumption) (by rw[z0b];exact z0o) (by rw[z0b];rfl) (z0s _ _) ?_))
  refine (HB3.out _).mono ?_
  rintro e wq ⟨rfl,rfl⟩
  go_wp2_with (first | (refine z0k rfl rfl rfl (by assumption) (by decide) (by decide) ?_) | (refine z0k rfl rfl rfl (H0.out _) (by decide) (by decide) ?_) | (refine z1h rfl rfl rfl (by assumption) ?_) | (refine z0h rfl rfl rfl rfl (by assumption) (by decide) (by decide) ?_;intro wn HBn HO HL;have HZn:=Eq.trans (HO (w.heap.size+1) (by omega)) (by assumption);have HLn:=HL w.heap.size w (Nat.le_refl _) (by assumption);clear HO HL) | (refine z0h rfl rfl rfl rfl (H0.out _) (by decide) (by decide) ?_;intro wn HBn HO HL;have HZn:=Eq.trans (HO (w.heap.size+1) (by omega)) (Z0.out _);have HLn:=HL w.heap.size w (Nat.le_refl _) box2;clear HO HL) | (refine z0z rfl rfl rfl rfl (by assumption) ?_;intro wn HBn HO HL;have HZn:=Eq.trans (HO (w.heap.size+1) (by omega)) (by assumption);have HLn:=HL w.heap.size w (Nat.le_refl _) (by assumption);clear HO HL) | (refine wpList_load_row rfl 32 (.tmp 3) rfl _ rfl _ _ _ _ (by assumption) HS.out rfl (by rw[z0b];exact z0o) ?_) | (refine wpList_store_row rfl 32 (.tmp 6) (.tmp 38) rfl _ (z0c _ _) rfl rfl _ _ (by assumption) (by rw[z0b];exact z0o) (by rw[z0b];rfl) (z0s _ _) ?_))
  refine bodyPost_ret (results_cell_row rfl _ _ _ _ _ _ _ rfl (setRow_heap _ _ _ _ _ _ (by assumption)) HS.out rfl (by rw[z0b];exact z0o)) rfl ⟨ret57 (fun i _ _=>?_) ?_,below_setRow (by assumption) (Nat.le_succ _) _⟩
  ·unfold z5i
   rw[HE.out]
   by_cases a1:i=32
   ·subst a1;simp[set1]
   ·by_cases a2:i=34
    ·subst a2;simp[set1]
    ·by_cases a3:i=38
     ·subst a3;simp[set1]
     ·by_cases a4:i=39
      ·subst a4;simp[set1]
      ·by_cases a5:i=40
       ·subst a5;simp[set1]
       ·simp[set1,a1,a2,a3,a4,a5]
  ·rfl
 ·have b3:(y3==1)=false:=by simpa using h3
  have HE:Hid (z9m (f 34) false=bits .or .u32 (bits .andNot .u32 (f 34) 6280) 6144):=by
   show _=_
   unfold z9m
   rw[HY.out]
   simp[h3]
  clear HY h3
  go_enter Tryz.func29,Tryz.ntmps29
  go_wp2_with (first | (refine z0k rfl rfl rfl (by assumption) (by decide) (by decide) ?_) | (refine z0k rfl rfl rfl (H0.out _) (by decide) (by decide) ?_) | (refine z1h rfl rfl rfl (by assumption) ?_) | (refine z0h rfl rfl rfl rfl (by assumption) (by decide) (by decide) ?_;intro wn HBn HO HL;have HZn:=Eq.trans (HO (w.heap.size+1) (by omega)) (by assumption);have HLn:=HL w.heap.size w (Nat.le_refl _) (by assumption);clear HO HL) | (refine z0h rfl rfl rfl rfl (H0.out _) (by decide) (by decide) ?_;intro wn HBn HO HL;have HZn:=Eq.trans (HO (w.heap.size+1) (by omega)) (Z0.out _);have HLn:=HL w.heap.size w (Nat.le_refl _) box2;clear HO HL) | (refine z0z rfl rfl rfl rfl (by assumption) ?_;intro wn HBn HO HL;have HZn:=Eq.trans (HO (w.heap.size+1) (by omega)) (by assumption);have HLn:=HL w.heap.size w (Nat.le_refl _) (by assumption);clear HO HL) | (refine wpList_load_row rfl 32 (.tmp 3) rfl _ rfl _ _ _ _ (by assumption) HS.out rfl (by rw[z0b];exact z0o) ?_) | (refine wpList_store_row rfl 32 (.tmp 6) (.tmp 38) rfl _ (z0c _ _) rfl rfl _ _ (by assumption) (by rw[z0b];exact z0o) (by rw[z0b];rfl) (z0s _ _) ?_))
  refine (HB3.out _).mono ?_
  rintro e wq ⟨rfl,rfl⟩
  go_wp2_with (first | (refine z0k rfl rfl rfl (by assumption) (by decide) (by decide) ?_) | (refine z0k rfl rfl rfl (H0.out _) (by decide) (by decide) ?_) | (refine z1h rfl rfl rfl (by assumption) ?_) | (refine z0h rfl rfl rfl rfl (by assumption) (by decide) (by decide) ?_;intro wn HBn HO HL;have HZn:=Eq.trans (HO (w.heap.size+1) (by omega)) (by assumption);have HLn:=HL w.heap.size w (Nat.le_refl _) (by assumption);clear HO HL) | (refine z0h rfl rfl rfl rfl (H0.out _) (by decide) (by decide) ?_;intro wn HBn HO HL;have HZn:=Eq.trans (HO (w.heap.size+1) (by omega)) (Z0.out _);have HLn:=HL w.heap.size w (Nat.le_refl _) box2;clear HO HL) | (refine z0z rfl rfl rfl rfl (by assumption) ?_;intro wn HBn HO HL;have HZn:=Eq.trans (HO (w.heap.size+1) (by omega)) (by assumption);have HLn:=HL w.heap.size w (Nat.le_refl _) (by assumption);clear HO HL) | (refine wpList_load_row rfl 32 (.tmp 3) rfl _ rfl _ _ _ _ (by assumption) HS.out rfl (by rw[z0b];exact z0o) ?_) | (refine wpList_store_row rfl 32 (.tmp 6) (.tmp 38) rfl _ (z0c _ _) rfl rfl _ _ (by assumption) (by rw[z0b];exact z0o) (by rw[z0b];rfl) (z0s _ _) ?_))
  refine bodyPost_ret (results_cell_row rfl _ _ _ _ _ _ _ rfl (setRow_heap _ _ _ _ _ _ (by assumption)) HS.out rfl (by rw[z0b];exact z0o)) rfl ⟨ret57 (fun i _ _=>?_) ?_,below_setRow (by assumption) (Nat.le_succ _) _⟩
  ·unfold z5i
   rw[HE.out]
   by_cases a1:i=32
   ·subst a1;simp[set1]
   ·by_cases a2:i=34
    ·subst a2;simp[set1]
    ·by_cases a3:i=38
     ·subst a3;simp[set1]
     ·by_cases a4:i=39
      ·subst a4;simp[set1]
      ·by_cases a5:i=40
       ·subst a5;simp[set1]
       ·simp[set1,a1,a2,a3,a4,a5]
  ·rfl
theorem rTrap (f:Nat→Int) (u:Bool) (c v:Int) (hu:∀ i,U32 (f i)) (w:World) :
  Calls Tryz.prog 29 #[.agg (z0c f u),.int .u32 c,.int .u32 v] w fun e w'=>e=.returned (.agg (z0c (z5i f u c v) false))∧Below w.heap.size w w':=by
 cases u
 ·exact rTrap_false f c v hu w
 ·exact rTrap_true f c v hu w
def z2f (n:Int):Option Nat:=
 if n=768 then some 34
 else if n=772 then some 35
 else if n=773 then some 36
 else if n=832 then some 37
 else if n=833 then some 38
 else if n=834 then some 39
 else if n=835 then some 40
 else if 1984≤n∧n<2000 then some (41+(n-1984).toNat)
 else none
def z4e (f:Nat→Int) (n now:Int) (due:Bool):Int:=
 if n=836 then (if due then 128 else 0) else if n=3072 then now%4294967296 else match z2f n with
  | some i=>f i
  | none=>0
def z2b (n:Int):Int:=if n=836∨n=3072∨(z2f n).isSome then 0 else 2
def gotA (x e:Int):Value:=.agg #[.int .u32 x,.int .i64 e]
theorem rRead_768 (f:Nat→Int) (u:Bool) (now:Int) (due:Bool) (w:World) :
  Calls Tryz.prog 88 #[.agg (z0c f u),.int .i64 768,.int .i64 now,.bool due] w fun e w'=>e=.returned (gotA (f 34) 0)∧Below w.heap.size w w':=by
 have hbox:=z3r f u
 have H0:Hid (∀ Z,((w.alloc (.cells (z0c f u) 32)).alloc Z).heap[w.heap.size]?=some (.cells (z0c f u) 32)):=fun Z=>z0m ((Below.refl _ _).alloc (Nat.le_refl _) _)
 go_enter Tryz.func88,Tryz.ntmps88
 go_wp2_with (first | (refine z0k rfl rfl rfl (H0.out _) (by decide) (by decide) ?_))
 exact bodyPost_ret (v:=gotA (f 34) 0) (by simp[results,Tryz.results88,go_sem,gotA]) rfl ⟨rfl,box2⟩
theorem rRead_772 (f:Nat→Int) (u:Bool) (now:Int) (due:Bool) (w:World) :
  Calls Tryz.prog 88 #[.agg (z0c f u),.int .i64 772,.int .i64 now,.bool due] w fun e w'=>e=.returned (gotA (f 35) 0)∧Below w.heap.size w w':=by
 have hbox:=z3r f u
 have H0:Hid (∀ Z,((w.alloc (.cells (z0c f u) 32)).alloc Z).heap[w.heap.size]?=some (.cells (z0c f u) 32)):=fun Z=>z0m ((Below.refl _ _).alloc (Nat.le_refl _) _)
 go_enter Tryz.func88,Tryz.ntmps88
 go_wp2_with (first | (refine z0k rfl rfl rfl (H0.out _) (by decide) (by decide) ?_))
 exact bodyPost_ret (v:=gotA (f 35) 0) (by simp[results,Tryz.results88,go_sem,gotA]) rfl ⟨rfl,box2⟩
theorem rRead_773 (f:Nat→Int) (u:Bool) (now:Int) (due:Bool) (w:World) :
  Calls Tryz.prog 88 #[.agg (z0c f u),.int .i64 773,.int .i64 now,.bool due] w fun e w'=>e=.returned (gotA (f 36) 0)∧Below w.heap.size w w':=by
 have hbox:=z3r f u
 have H0:Hid (∀ Z,((w.alloc (.cells (z0c f u) 32)).alloc Z).heap[w.heap.size]?=some (.cells (z0c f u) 32)):=fun Z=>z0m ((Below.refl _ _).alloc (Nat.le_refl _) _)
 go_enter Tryz.func88,Tryz.ntmps88
 go_wp2_with (first | (refine z0k rfl rfl rfl (H0.out _) (by decide) (by decide) ?_))
 exact bodyPost_ret (v:=gotA (f 36) 0) (by simp[results,Tryz.results88,go_sem,gotA]) rfl ⟨rfl,box2⟩
theorem rRead_832 (f:Nat→Int) (u:Bool) (now:Int) (due:Bool) (w:World) :
  Calls Tryz.prog 88 #[.agg (z0c f u),.int .i64 832,.int .i64 now,.bool due] w fun e w'=>e=.returned (gotA (f 37) 0)∧Below w.heap.size w w':=by
 have hbox:=z3r f u
 have H0:Hid (∀ Z,((w.alloc (.cells (z0c f u) 32)).alloc Z).heap[w.heap.size]?=some (.cells (z0c f u) 32)):=fun Z=>z0m ((Below.refl _ _).alloc (Nat.le_refl _) _)
 go_enter Tryz.func88,Tryz.ntmps88
 go_wp2_with (first | (refine z0k rfl rfl rfl (H0.out _) (by decide) (by decide) ?_))
 exact bodyPost_ret (v:=gotA (f 37) 0) (by simp[results,Tryz.results88,go_sem,gotA]) rfl ⟨rfl,box2⟩
theorem rRead_833 (f:Nat→Int) (u:Bool) (now:Int) (due:Bool) (w:World) :
  Calls Tryz.prog 88 #[.agg (z0c f u),.int .i64 833,.int .i64 now,.bool due] w fun e w'=>e=.returned (gotA (f 38) 0)∧Below w.heap.size w w':=by
 have hbox:=z3r f u
 have H0:Hid (∀ Z,((w.alloc (.cells (z0c f u) 32)).alloc Z).heap[w.heap.size]?=some (.cells (z0c f u) 32)):=fun Z=>z0m ((Below.refl _ _).alloc (Nat.le_refl _) _)
 go_enter Tryz.func88,Tryz.ntmps88
 go_wp2_with (first | (refine z0k rfl rfl rfl (H0.out _) (by decide) (by decide) ?_))
 exact bodyPost_ret (v:=gotA (f 38) 0) (by simp[results,Tryz.results88,go_sem,gotA]) rfl ⟨rfl,box2⟩
theorem rRead_834 (f:Nat→Int) (u:Bool) (now:Int) (due:Bool) (w:World) :
  Calls Tryz.prog 88 #[.agg (z0c f u),.int .i64 834,.int .i64 now,.bool due] w fun e w'=>e=.returned (gotA (f 39) 0)∧Below w.heap.size w w':=by
 have hbox:=z3r f u
 have H0:Hid (∀ Z,((w.alloc (.cells (z0c f u) 32)).alloc Z).heap[w.heap.size]?=some (.cells (z0c f u) 32)):=fun Z=>z0m ((Below.refl _ _).alloc (Nat.le_refl _) _)
 go_enter Tryz.func88,Tryz.ntmps88
 go_wp2_with (first | (refine z0k rfl rfl rfl (H0.out _) (by decide) (by decide) ?_))
 exact bodyPost_ret (v:=gotA (f 39) 0) (by simp[results,Tryz.results88,go_sem,gotA]) rfl ⟨rfl,box2⟩
theorem rRead_835 (f:Nat→Int) (u:Bool) (now:Int) (due:Bool) (w:World) :
  Calls Tryz.prog 88 #[.agg (z0c f u),.int .i64 835,.int .i64 now,.bool due] w fun e w'=>e=.returned (gotA (f 40) 0)∧Below w.heap.size w w':=by
 have hbox:=z3r f u
 have H0:Hid (∀ Z,((w.alloc (.cells (z0c f u) 32)).alloc Z).heap[w.heap.size]?=some (.cells (z0c f u) 32)):=fun Z=>z0m ((Below.refl _ _).alloc (Nat.le_refl _) _)
 go_enter Tryz.func88,Tryz.ntmps88
 go_wp2_with (first | (refine z0k rfl rfl rfl (H0.out _) (by decide) (by decide) ?_))
 exact bodyPost_ret (v:=gotA (f 40) 0) (by simp[results,Tryz.results88,go_sem,gotA]) rfl ⟨rfl,box2⟩
theorem rRead_836 (f:Nat→Int) (u:Bool) (now:Int) (due:Bool) (w:World) :
  Calls Tryz.prog 88 #[.agg (z0c f u),.int .i64 836,.int .i64 now,.bool due] w fun e w'=>e=.returned (gotA (if due then 128 else 0) 0)∧Below w.heap.size w w':=by
 have hbox:=z3r f u
 cases due
 ·rw[if_neg (by decide)]
  go_enter Tryz.func88,Tryz.ntmps88
  go_wp2
  exact bodyPost_ret (v:=gotA 0 0) (by simp[results,Tryz.results88,go_sem,gotA]) rfl ⟨rfl,box2⟩
 ·rw[if_pos rfl]
  go_enter Tryz.func88,Tryz.ntmps88
  go_wp2
  exact bodyPost_ret (v:=gotA 128 0) (by simp[results,Tryz.results88,go_sem,gotA]) rfl ⟨rfl,box2⟩
theorem rRead_guard (f:Nat→Int) (u:Bool) (k:Nat) (now:Int) (due:Bool) (hk:k<16) (w:World) :
  Calls Tryz.prog 88 #[.agg (z0c f u),.int .i64 (1984+k:Int),.int .i64 now,.bool due] w fun e w'=>e=.returned (gotA (f (41+k)) 0)∧Below w.heap.size w w':=by
 have hbox:=z3r f u
 have H0:Hid (∀ Z,((w.alloc (.cells (z0c f u) 32)).alloc Z).heap[w.heap.size]?=some (.cells (z0c f u) 32)):=fun Z=>z0m ((Below.refl _ _).alloc (Nat.le_refl _) _)
 have m768:((1984+k:Int)==768)=false:=by simp;omega
 have m772:((1984+k:Int)==772)=false:=by simp;omega
 have m773:((1984+k:Int)==773)=false:=by simp;omega
 have m832:((1984+k:Int)==832)=false:=by simp;omega
 have m833:((1984+k:Int)==833)=false:=by simp;omega
 have m834:((1984+k:Int)==834)=false:=by simp;omega
 have m835:((1984+k:Int)==835)=false:=by simp;omega
 have m836:((1984+k:Int)==836)=false:=by simp;omega
 have m3072:((1984+k:Int)==3072)=false:=by simp;omega
 have g1:(1984:Int)≤1984+(k:Int):=by omega
 have g2:1984+(k:Int)<2000:=by omega
 have g3:(0:Int)≤(k:Int):=by omega
 have g4:(k:Int)<16:=by omega
 have g5:1984+(k:Int)-1984=(k:Int):=by omega
 go_enter Tryz.func88,Tryz.ntmps88
 go_wp2_with (first | (refine z0k rfl rfl rfl (H0.out _) (by omega) (by omega) ?_))
 exact bodyPost_ret (v:=gotA (f (41+k)) 0) (by simp[results,Tryz.results88,go_sem,gotA]) rfl ⟨rfl,box2⟩
theorem rRead_none (f:Nat→Int) (u:Bool) (n:Int) (now:Int) (due:Bool) (h:z2f n=none) (h1:n≠836) (h2:n≠3072) (w:World) :
  Calls Tryz.prog 88 #[.agg (z0c f u),.int .i64 n,.int .i64 now,.bool due] w fun e w'=>e=.returned (gotA 0 2)∧Below w.heap.size w w':=by
 have hbox:=z3r f u
 have hh:n≠768∧n≠772∧n≠773∧n≠832∧n≠833∧n≠834∧n≠835∧¬(1984≤n∧n<2000):=by
  unfold z2f at h
  repeat' split at h
  all_goals first | (cases h;done) | (refine⟨?_,?_,?_,?_,?_,?_,?_,?_⟩ <;> assumption)
 obtain⟨z1,z2,z3,z4,z5,z6,z7,z8⟩:=hh
 have m768:(n==768)=false:=by simp;omega
 have m772:(n==772)=false:=by simp;omega
 have m773:(n==773)=false:=by simp;omega
 have m832:(n==832)=false:=by simp;omega
 have m833:(n==833)=false:=by simp;omega
 have m834:(n==834)=false:=by simp;omega
 have m835:(n==835)=false:=by simp;omega
 have m836:(n==836)=false:=by simp;omega
 have m3072:(n==3072)=false:=by simp;omega
 clear h h1 h2 z1 z2 z3 z4 z5 z6 z7
 by_cases c:1984≤n
 ·have c2:¬n<2000:=by omega
  clear z8
  go_enter Tryz.func88,Tryz.ntmps88
  go_wp2
  exact bodyPost_ret (v:=gotA 0 2) (by simp[results,Tryz.results88,go_sem,gotA]) rfl ⟨rfl,box2⟩
 ·clear z8
  go_enter Tryz.func88,Tryz.ntmps88
  go_wp2
  exact bodyPost_ret (v:=gotA 0 2) (by simp[results,Tryz.results88,go_sem,gotA]) rfl ⟨rfl,box2⟩
def z2s (f:Nat→Int) (u:Bool) (e:Int):Array Value:=(z0c f u).push (.int .i64 e)
theorem z0r (f:Nat→Int) (u:Bool) (e:Int):(z2s f u e).size=58:=by simp[z2s,z0b]
theorem z2c (f:Nat→Int) (u:Bool) (e:Int):(z2s f u e).all (·.oneCell')=true:=by
 unfold z2s
 rw[Array.all_push,z0s]
 rfl
theorem z3e:(Tryz.prog.info? 138).map (·.size)=some 58:=by kernel_rfl
theorem und58:∃ fs,Tryz.prog.underlying 138=some (.struct fs):=⟨_,Tryz.underlying138⟩
theorem built58 (f:Nat→Int) (u:Bool):Tryz.prog.built 138 [(0,.agg (z0c f u))]=some (z2s f u 0):=by kernel_rfl
theorem built58e (f:Nat→Int) (u:Bool) (e:Int):Tryz.prog.built 138 [(0,.agg (z0c f u)),(1,.int .i64 e)]=some (z2s f u e):=by kernel_rfl
theorem z1y {ops:Array Oper} {rest:List Oper} {o:Oper} {a:Act} {w:World} {Q:Exit→Act→World→Prop} (hg:o.guard=none) (x:Operand) (ho:o.op=.build 138 #[(0,x)]) (f:Nat→Int) (u:Bool) (hx:a.eval x=.agg (z0c f u))
  (h:wpList Tryz.prog ops Q rest (a.put o.dst (.agg (z2s f u 0))) w):wpList Tryz.prog ops Q (o::rest) a w:=by
 have e:(#[(0,x)].map fun (i,x)=>(i,a.eval x)).toList=[(0,Value.agg (z0c f u))]:=by simp[hx]
 refine wpList_build hg _ _ ho ?_ ?_
 ·rw[e,built58];rfl
 ·rw[e,built58];exact h
theorem z4x {ops:Array Oper} {rest:List Oper} {o:Oper} {a:Act} {w:World} {Q:Exit→Act→World→Prop} (hg:o.guard=none) (x:Operand) (er:Int) (ho:o.op=.build 138 #[(0,x),(1,.const (.int .i64 er))]) (f:Nat→Int) (u:Bool) (hx:a.eval x=.agg (z0c f u))
  (h:wpList Tryz.prog ops Q rest (a.put o.dst (.agg (z2s f u er))) w):wpList Tryz.prog ops Q (o::rest) a w:=by
 have e:(#[(0,x),(1,.const (.int .i64 er))].map fun (i,x)=>(i,a.eval x)).toList=[(0,Value.agg (z0c f u)),(1,.int .i64 er)]:=by
  have hc:a.eval (.const (.int .i64 er))=.int .i64 er:=rfl
  simp[hx,hc]
 refine wpList_build hg _ _ ho ?_ ?_
 ·rw[e,built58e];rfl
 ·rw[e,built58e];exact h
theorem ret58 {f g:Nat→Int} {u:Bool} {e:Int} (h:∀ i,i<57→i≠33→f i=g i):Ending.returned (.agg (z2s f u e))=.returned (.agg (z2s g u e)):=by unfold z2s;rw[z5k h]
theorem set1_twice (f:Nat→Int) (i:Nat) (x y:Int) (j:Nat):set1 (set1 f i x) i y j=set1 f i y j:=by
 unfold set1
 by_cases h:j=i
 ·rw[if_pos h,if_pos h]
 ·rw[if_neg h,if_neg h,if_neg h]
def statV (x:Int):Int:=if z0j x 11 2=3 then bits .or .u32 (bits .and .u32 x 136) 6144 else bits .and .u32 x 136
theorem rWrite_772 (f:Nat→Int) (u:Bool) (x:Int) (w:World) :
  Calls Tryz.prog 89 #[.agg (z0c f u),.int .i64 772,.int .u32 x] w fun e w'=>e=.returned (.agg (z2s (set1 f 35 (bits .and .u32 x 128)) u 0))∧Below w.heap.size w w':=by
 have hbox:=z3r f u
 obtain⟨fs,hfs⟩:=z3f
 have HS:Hid _:=hfs
 clear hfs
 obtain⟨fs',hfs⟩:=und58
 have HT:Hid _:=hfs
 clear hfs
 have H0:Hid (∀ Z,((w.alloc (.cells (z0c f u) 32)).alloc Z).heap[w.heap.size]?=some (.cells (z0c f u) 32)):=fun Z=>z0m ((Below.refl _ _).alloc (Nat.le_refl _) _)
 have Z0:Hid (∀ Z,((w.alloc (.cells (z0c f u) 32)).alloc Z).heap[w.heap.size+1]?=some Z):=fun Z=>by have:=z0g (w.alloc (.cells (z0c f u) 32)) Z;rwa [World.size_alloc] at this
 go_enter Tryz.func89,Tryz.ntmps89
 go_wp2_with (first | (refine z0h rfl rfl rfl rfl (H0.out _) (by decide) (by decide) ?_;intro wn HBn HO HL;have HZn:=Eq.trans (HO (w.heap.size+1) (by omega)) (Z0.out _);have HLn:=HL w.heap.size w (Nat.le_refl _) box2;clear HO HL) | (refine z0h rfl rfl rfl rfl (by assumption) (by decide) (by decide) ?_;intro wn HBn HO HL;have HZn:=Eq.trans (HO (w.heap.size+1) (by omega)) (by assumption);have HLn:=HL w.heap.size w (Nat.le_refl _) (by assumption);clear HO HL) | (refine wpList_load_row rfl 32 (.tmp 3) rfl _ rfl _ _ _ _ (by assumption) HS.out rfl (by rw[z0b];exact z0o) ?_) | (refine z1y rfl (.tmp 67) rfl _ _ rfl ?_) | (refine wpList_store_row rfl 138 (.tmp 6) (.tmp 68) rfl _ (z2s _ _ _) rfl rfl _ _ (by assumption) (by rw[z0r];exact z3e) (by rw[z0r];rfl) (z2c _ _ _) ?_))
 exact bodyPost_ret (results_cell_row rfl _ _ _ _ _ _ _ rfl (setRow_heap _ _ _ _ _ _ (by assumption)) HT.out rfl (by rw[z0r];exact z3e)) rfl ⟨rfl,below_setRow (by assumption) (Nat.le_succ _) _⟩
theorem rWrite_773 (f:Nat→Int) (u:Bool) (x:Int) (hx:U32 x) (w:World) :
  Calls Tryz.prog 89 #[.agg (z0c f u),.int .i64 773,.int .u32 x] w fun e w'=>e=.returned (.agg (z2s (set1 f 36 (x/4*4)) u 0))∧Below w.heap.size w w':=by
 have hbox:=z3r f u
 obtain⟨fs,hfs⟩:=z3f
 have HS:Hid _:=hfs
 clear hfs
 obtain⟨fs',hfs⟩:=und58
 have HT:Hid _:=hfs
 clear hfs
 have H0:Hid (∀ Z,((w.alloc (.cells (z0c f u) 32)).alloc Z).heap[w.heap.size]?=some (.cells (z0c f u) 32)):=fun Z=>z0m ((Below.refl _ _).alloc (Nat.le_refl _) _)
 have Z0:Hid (∀ Z,((w.alloc (.cells (z0c f u) 32)).alloc Z).heap[w.heap.size+1]?=some Z):=fun Z=>by have:=z0g (w.alloc (.cells (z0c f u) 32)) Z;rwa [World.size_alloc] at this
 have t1:x.tdiv 4=x/4:=Int.tdiv_eq_ediv_of_nonneg hx.1
 obtain⟨x0,x1⟩:=hx
 go_enter Tryz.func89,Tryz.ntmps89
 go_wp2_with (first | (refine z0h rfl rfl rfl rfl (H0.out _) (by decide) (by decide) ?_;intro wn HBn HO HL;have HZn:=Eq.trans (HO (w.heap.size+1) (by omega)) (Z0.out _);have HLn:=HL w.heap.size w (Nat.le_refl _) box2;clear HO HL) | (refine z0h rfl rfl rfl rfl (by assumption) (by decide) (by decide) ?_;intro wn HBn HO HL;have HZn:=Eq.trans (HO (w.heap.size+1) (by omega)) (by assumption);have HLn:=HL w.heap.size w (Nat.le_refl _) (by assumption);clear HO HL) | (refine wpList_load_row rfl 32 (.tmp 3) rfl _ rfl _ _ _ _ (by assumption) HS.out rfl (by rw[z0b];exact z0o) ?_) | (refine z1y rfl (.tmp 67) rfl _ _ rfl ?_) | (refine wpList_store_row rfl 138 (.tmp 6) (.tmp 68) rfl _ (z2s _ _ _) rfl rfl _ _ (by assumption) (by rw[z0r];exact z3e) (by rw[z0r];rfl) (z2c _ _ _) ?_))
 exact bodyPost_ret (results_cell_row rfl _ _ _ _ _ _ _ rfl (setRow_heap _ _ _ _ _ _ (by assumption)) HT.out rfl (by rw[z0r];exact z3e)) rfl ⟨rfl,below_setRow (by assumption) (Nat.le_succ _) _⟩
theorem rWrite_832 (f:Nat→Int) (u:Bool) (x:Int) (w:World) :
  Calls Tryz.prog 89 #[.agg (z0c f u),.int .i64 832,.int .u32 x] w fun e w'=>e=.returned (.agg (z2s (set1 f 37 x) u 0))∧Below w.heap.size w w':=by
 have hbox:=z3r f u
 obtain⟨fs,hfs⟩:=z3f
 have HS:Hid _:=hfs
 clear hfs
 obtain⟨fs',hfs⟩:=und58
 have HT:Hid _:=hfs
 clear hfs
 have H0:Hid (∀ Z,((w.alloc (.cells (z0c f u) 32)).alloc Z).heap[w.heap.size]?=some (.cells (z0c f u) 32)):=fun Z=>z0m ((Below.refl _ _).alloc (Nat.le_refl _) _)
 have Z0:Hid (∀ Z,((w.alloc (.cells (z0c f u) 32)).alloc Z).heap[w.heap.size+1]?=some Z):=fun Z=>by have:=z0g (w.alloc (.cells (z0c f u) 32)) Z;rwa [World.size_alloc] at this
 go_enter Tryz.func89,Tryz.ntmps89
 go_wp2_with (first | (refine z0h rfl rfl rfl rfl (H0.out _) (by decide) (by decide) ?_;intro wn HBn HO HL;have HZn:=Eq.trans (HO (w.heap.size+1) (by omega)) (Z0.out _);have HLn:=HL w.heap.size w (Nat.le_refl _) box2;clear HO HL) | (refine z0h rfl rfl rfl rfl (by assumption) (by decide) (by decide) ?_;intro wn HBn HO HL;have HZn:=Eq.trans (HO (w.heap.size+1) (by omega)) (by assumption);have HLn:=HL w.heap.size w (Nat.le_refl _) (by assumption);clear HO HL) | (refine wpList_load_row rfl 32 (.tmp 3) rfl _ rfl _ _ _ _ (by assumption) HS.out rfl (by rw[z0b];exact z0o) ?_) | (refine z1y rfl (.tmp 67) rfl _ _ rfl ?_) | (refine wpList_store_row rfl 138 (.tmp 6) (.tmp 68) rfl _ (z2s _ _ _) rfl rfl _ _ (by assumption) (by rw[z0r];exact z3e) (by rw[z0r];rfl) (z2c _ _ _) ?_))
 exact bodyPost_ret (results_cell_row rfl _ _ _ _ _ _ _ rfl (setRow_heap _ _ _ _ _ _ (by assumption)) HT.out rfl (by rw[z0r];exact z3e)) rfl ⟨rfl,below_setRow (by assumption) (Nat.le_succ _) _⟩
theorem rWrite_833 (f:Nat→Int) (u:Bool) (x:Int) (hx:U32 x) (w:World) :
  Calls Tryz.prog 89 #[.agg (z0c f u),.int .i64 833,.int .u32 x] w fun e w'=>e=.returned (.agg (z2s (set1 f 38 (x/4*4)) u 0))∧Below w.heap.size w w':=by
 have hbox:=z3r f u
 obtain⟨fs,hfs⟩:=z3f
 have HS:Hid _:=hfs
 clear hfs
 obtain⟨fs',hfs⟩:=und58
 have HT:Hid _:=hfs
 clear hfs
 have H0:Hid (∀ Z,((w.alloc (.cells (z0c f u) 32)).alloc Z).heap[w.heap.size]?=some (.cells (z0c f u) 32)):=fun Z=>z0m ((Below.refl _ _).alloc (Nat.le_refl _) _)
 have Z0:Hid (∀ Z,((w.alloc (.cells (z0c f u) 32)).alloc Z).heap[w.heap.size+1]?=some Z):=fun Z=>by have:=z0g (w.alloc (.cells (z0c f u) 32)) Z;rwa [World.size_alloc] at this
 have t1:x.tdiv 4=x/4:=Int.tdiv_eq_ediv_of_nonneg hx.1
 obtain⟨x0,x1⟩:=hx
 go_enter Tryz.func89,Tryz.ntmps89
 go_wp2_with (first | (refine z0h rfl rfl rfl rfl (H0.out _) (by decide) (by decide) ?_;intro wn HBn HO HL;have HZn:=Eq.trans (HO (w.heap.size+1) (by omega)) (Z0.out _);have HLn:=HL w.heap.size w (Nat.le_refl _) box2;clear HO HL) | (refine z0h rfl rfl rfl rfl (by assumption) (by decide) (by decide) ?_;intro wn HBn HO HL;have HZn:=Eq.trans (HO (w.heap.size+1) (by omega)) (by assumption);have HLn:=HL w.heap.size w (Nat.le_refl _) (by assumption);clear HO HL) | (refine wpList_load_row rfl 32 (.tmp 3) rfl _ rfl _ _ _ _ (by assumption) HS.out rfl (by rw[z0b];exact z0o) ?_) | (refine z1y rfl (.tmp 67) rfl _ _ rfl ?_) | (refine wpList_store_row rfl 138 (.tmp 6) (.tmp 68) rfl _ (z2s _ _ _) rfl rfl _ _ (by assumption) (by rw[z0r];exact z3e) (by rw[z0r];rfl) (z2c _ _ _) ?_))
 exact bodyPost_ret (results_cell_row rfl _ _ _ _ _ _ _ rfl (setRow_heap _ _ _ _ _ _ (by assumption)) HT.out rfl (by rw[z0r];exact z3e)) rfl ⟨rfl,below_setRow (by assumption) (Nat.le_succ _) _⟩
theorem rWrite_834 (f:Nat→Int) (u:Bool) (x:Int) (w:World) :
  Calls Tryz.prog 89 #[.agg (z0c f u),.int .i64 834,.int .u32 x] w fun e w'=>e=.returned (.agg (z2s (set1 f 39 x) u 0))∧Below w.heap.size w w':=by
 have hbox:=z3r f u
 obtain⟨fs,hfs⟩:=z3f
 have HS:Hid _:=hfs
 clear hfs
 obtain⟨fs',hfs⟩:=und58
 have HT:Hid _:=hfs
 clear hfs
 have H0:Hid (∀ Z,((w.alloc (.cells (z0c f u) 32)).alloc Z).heap[w.heap.size]?=some (.cells (z0c f u) 32)):=fun Z=>z0m ((Below.refl _ _).alloc (Nat.le_refl _) _)
 have Z0:Hid (∀ Z,((w.alloc (.cells (z0c f u) 32)).alloc Z).heap[w.heap.size+1]?=some Z):=fun Z=>by have:=z0g (w.alloc (.cells (z0c f u) 32)) Z;rwa [World.size_alloc] at this
 go_enter Tryz.func89,Tryz.ntmps89
 go_wp2_with (first | (refine z0h rfl rfl rfl rfl (H0.out _) (by decide) (by decide) ?_;intro wn HBn HO HL;have HZn:=Eq.trans (HO (w.heap.size+1) (by omega)) (Z0.out _);have HLn:=HL w.heap.size w (Nat.le_refl _) box2;clear HO HL) | (refine z0h rfl rfl rfl rfl (by assumption) (by decide) (by decide) ?_;intro wn HBn HO HL;have HZn:=Eq.trans (HO (w.heap.size+1) (by omega)) (by assumption);have HLn:=HL w.heap.size w (Nat.le_refl _) (by assumption);clear HO HL) | (refine wpList_load_row rfl 32 (.tmp 3) rfl _ rfl _ _ _ _ (by assumption) HS.out rfl (by rw[z0b];exact z0o) ?_) | (refine z1y rfl (.tmp 67) rfl _ _ rfl ?_) | (refine wpList_store_row rfl 138 (.tmp 6) (.tmp 68) rfl _ (z2s _ _ _) rfl rfl _ _ (by assumption) (by rw[z0r];exact z3e) (by rw[z0r];rfl) (z2c _ _ _) ?_))
 exact bodyPost_ret (results_cell_row rfl _ _ _ _ _ _ _ rfl (setRow_heap _ _ _ _ _ _ (by assumption)) HT.out rfl (by rw[z0r];exact z3e)) rfl ⟨rfl,below_setRow (by assumption) (Nat.le_succ _) _⟩
theorem rWrite_835 (f:Nat→Int) (u:Bool) (x:Int) (w:World) :
  Calls Tryz.prog 89 #[.agg (z0c f u),.int .i64 835,.int .u32 x] w fun e w'=>e=.returned (.agg (z2s (set1 f 40 x) u 0))∧Below w.heap.size w w':=by
 have hbox:=z3r f u
 obtain⟨fs,hfs⟩:=z3f
 have HS:Hid _:=hfs
 clear hfs
 obtain⟨fs',hfs⟩:=und58
 have HT:Hid _:=hfs
 clear hfs
 have H0:Hid (∀ Z,((w.alloc (.cells (z0c f u) 32)).alloc Z).heap[w.heap.size]?=some (.cells (z0c f u) 32)):=fun Z=>z0m ((Below.refl _ _).alloc (Nat.le_refl _) _)
 have Z0:Hid (∀ Z,((w.alloc (.cells (z0c f u) 32)).alloc Z).heap[w.heap.size+1]?=some Z):=fun Z=>by have:=z0g (w.alloc (.cells (z0c f u) 32)) Z;rwa [World.size_alloc] at this
 go_enter Tryz.func89,Tryz.ntmps89
 go_wp2_with (first | (refine z0h rfl rfl rfl rfl (H0.out _) (by decide) (by decide) ?_;intro wn HBn HO HL;have HZn:=Eq.trans (HO (w.heap.size+1) (by omega)) (Z0.out _);have HLn:=HL w.heap.size w (Nat.le_refl _) box2;clear HO HL) | (refine z0h rfl rfl rfl rfl (by assumption) (by decide) (by decide) ?_;intro wn HBn HO HL;have HZn:=Eq.trans (HO (w.heap.size+1) (by omega)) (by assumption);have HLn:=HL w.heap.size w (Nat.le_refl _) (by assumption);clear HO HL) | (refine wpList_load_row rfl 32 (.tmp 3) rfl _ rfl _ _ _ _ (by assumption) HS.out rfl (by rw[z0b];exact z0o) ?_) | (refine z1y rfl (.tmp 67) rfl _ _ rfl ?_) | (refine wpList_store_row rfl 138 (.tmp 6) (.tmp 68) rfl _ (z2s _ _ _) rfl rfl _ _ (by assumption) (by rw[z0r];exact z3e) (by rw[z0r];rfl) (z2c _ _ _) ?_))
 exact bodyPost_ret (results_cell_row rfl _ _ _ _ _ _ _ rfl (setRow_heap _ _ _ _ _ _ (by assumption)) HT.out rfl (by rw[z0r];exact z3e)) rfl ⟨rfl,below_setRow (by assumption) (Nat.le_succ _) _⟩
theorem rWrite_836 (f:Nat→Int) (u:Bool) (x:Int) (w:World) :
  Calls Tryz.prog 89 #[.agg (z0c f u),.int .i64 836,.int .u32 x] w fun e w'=>e=.returned (.agg (z2s f u 7))∧Below w.heap.size w w':=by
 have hbox:=z3r f u
 obtain⟨fs,hfs⟩:=z3f
 have HS:Hid _:=hfs
 clear hfs
 obtain⟨fs',hfs⟩:=und58
 have HT:Hid _:=hfs
 clear hfs
 have H0:Hid (∀ Z,((w.alloc (.cells (z0c f u) 32)).alloc Z).heap[w.heap.size]?=some (.cells (z0c f u) 32)):=fun Z=>z0m ((Below.refl _ _).alloc (Nat.le_refl _) _)
 have Z0:Hid (∀ Z,((w.alloc (.cells (z0c f u) 32)).alloc Z).heap[w.heap.size+1]?=some Z):=fun Z=>by have:=z0g (w.alloc (.cells (z0c f u) 32)) Z;rwa [World.size_alloc] at this
 go_enter Tryz.func89,Tryz.ntmps89
 go_wp2_with (first | (refine wpList_load_row rfl 32 (.tmp 3) rfl _ rfl _ _ _ _ (H0.out _) HS.out rfl (by rw[z0b];exact z0o) ?_) | (refine z4x rfl (.tmp 65) 7 rfl _ _ rfl ?_) | (refine wpList_store_row rfl 138 (.tmp 6) (.tmp 66) rfl _ (z2s _ _ _) rfl rfl _ _ (Z0.out _) (by rw[z0r];exact z3e) (by rw[z0r];rfl) (z2c _ _ _) ?_))
 exact bodyPost_ret (results_cell_row rfl _ _ _ _ _ _ _ rfl (setRow_heap _ _ _ _ _ _ (Z0.out _)) HT.out rfl (by rw[z0r];exact z3e)) rfl ⟨rfl,below_setRow box2 (Nat.le_succ _) _⟩
theorem rWrite_3072 (f:Nat→Int) (u:Bool) (x:Int) (w:World) :
  Calls Tryz.prog 89 #[.agg (z0c f u),.int .i64 3072,.int .u32 x] w fun e w'=>e=.returned (.agg (z2s f u 7))∧Below w.heap.size w w':=by
 have hbox:=z3r f u
 obtain⟨fs,hfs⟩:=z3f
 have HS:Hid _:=hfs
 clear hfs
 obtain⟨fs',hfs⟩:=und58
 have HT:Hid _:=hfs
 clear hfs
 have H0:Hid (∀ Z,((w.alloc (.cells (z0c f u) 32)).alloc Z).heap[w.heap.size]?=some (.cells (z0c f u) 32)):=fun Z=>z0m ((Below.refl _ _).alloc (Nat.le_refl _) _)
 have Z0:Hid (∀ Z,((w.alloc (.cells (z0c f u) 32)).alloc Z).heap[w.heap.size+1]?=some Z):=fun Z=>by have:=z0g (w.alloc (.cells (z0c f u) 32)) Z;rwa [World.size_alloc] at this
 go_enter Tryz.func89,Tryz.ntmps89
 go_wp2_with (first | (refine wpList_load_row rfl 32 (.tmp 3) rfl _ rfl _ _ _ _ (H0.out _) HS.out rfl (by rw[z0b];exact z0o) ?_) | (refine z4x rfl (.tmp 65) 7 rfl _ _ rfl ?_) | (refine wpList_store_row rfl 138 (.tmp 6) (.tmp 66) rfl _ (z2s _ _ _) rfl rfl _ _ (Z0.out _) (by rw[z0r];exact z3e) (by rw[z0r];rfl) (z2c _ _ _) ?_))
 exact bodyPost_ret (results_cell_row rfl _ _ _ _ _ _ _ rfl (setRow_heap _ _ _ _ _ _ (Z0.out _)) HT.out rfl (by rw[z0r];exact z3e)) rfl ⟨rfl,below_setRow box2 (Nat.le_succ _) _⟩
theorem rWrite_guard (f:Nat→Int) (u:Bool) (x:Int) (k:Nat) (hk:k<16) (w:World) :
  Calls Tryz.prog 89 #[.agg (z0c f u),.int .i64 (1984+k:Int),.int .u32 x] w fun e w'=>e=.returned (.agg (z2s (set1 f (41+k) x) u 0))∧Below w.heap.size w w':=by
 have hbox:=z3r f u
 obtain⟨fs,hfs⟩:=z3f
 have HS:Hid _:=hfs
 clear hfs
 obtain⟨fs',hfs⟩:=und58
 have HT:Hid _:=hfs
 clear hfs
 have H0:Hid (∀ Z,((w.alloc (.cells (z0c f u) 32)).alloc Z).heap[w.heap.size]?=some (.cells (z0c f u) 32)):=fun Z=>z0m ((Below.refl _ _).alloc (Nat.le_refl _) _)
 have Z0:Hid (∀ Z,((w.alloc (.cells (z0c f u) 32)).alloc Z).heap[w.heap.size+1]?=some Z):=fun Z=>by have:=z0g (w.alloc (.cells (z0c f u) 32)) Z;rwa [World.size_alloc] at this
 have m768:((1984+k:Int)==768)=false:=by simp;omega
 have m772:((1984+k:Int)==772)=false:=by simp;omega
 have m773:((1984+k:Int)==773)=false:=by simp;omega
 have m832:((1984+k:Int)==832)=false:=by simp;omega
 have m833:((1984+k:Int)==833)=false:=by simp;omega
 have m834:((1984+k:Int)==834)=false:=by simp;omega
 have m835:((1984+k:Int)==835)=false:=by simp;omega
 have m836:((1984+k:Int)==836)=false:=by simp;omega
 have m3072:((1984+k:Int)==3072)=false:=by simp;omega
 have g1:¬1984+(k:Int)<1984:=by omega
 have g2:¬2000≤1984+(k:Int):=by omega
 have g3:(0:Int)≤(k:Int):=by omega
 have g4:(k:Int)<16:=by omega
 have g5:1984+(k:Int)-1984=(k:Int):=by omega
 go_enter Tryz.func89,Tryz.ntmps89
 go_wp2_with (first | (refine z0h rfl rfl rfl rfl (H0.out _) (by omega) (by omega) ?_;intro wn HBn HO HL;have HZn:=Eq.trans (HO (w.heap.size+1) (by omega)) (Z0.out _);have HLn:=HL w.heap.size w (Nat.le_refl _) box2;clear HO HL) | (refine z0h rfl rfl rfl rfl (by assumption) (by omega) (by omega) ?_;intro wn HBn HO HL;have HZn:=Eq.trans (HO (w.heap.size+1) (by omega)) (by assumption);have HLn:=HL w.heap.size w (Nat.le_refl _) (by assumption);clear HO HL) | (refine wpList_load_row rfl 32 (.tmp 3) rfl _ rfl _ _ _ _ (by assumption) HS.out rfl (by rw[z0b];exact z0o) ?_) | (refine z1y rfl (.tmp 67) rfl _ _ rfl ?_) | (refine wpList_store_row rfl 138 (.tmp 6) (.tmp 68) rfl _ (z2s _ _ _) rfl rfl _ _ (by assumption) (by rw[z0r];exact z3e) (by rw[z0r];rfl) (z2c _ _ _) ?_))
 exact bodyPost_ret (results_cell_row rfl _ _ _ _ _ _ _ rfl (setRow_heap _ _ _ _ _ _ (by assumption)) HT.out rfl (by rw[z0r];exact z3e)) rfl ⟨rfl,below_setRow (by assumption) (Nat.le_succ _) _⟩
theorem rWrite_none (f:Nat→Int) (u:Bool) (x:Int) (n:Int) (h:z2f n=none) (h1:n≠836) (h2:n≠3072) (w:World) :
  Calls Tryz.prog 89 #[.agg (z0c f u),.int .i64 n,.int .u32 x] w fun e w'=>e=.returned (.agg (z2s f u 2))∧Below w.heap.size w w':=by
 have hbox:=z3r f u
 obtain⟨fs,hfs⟩:=z3f
 have HS:Hid _:=hfs
 clear hfs
 obtain⟨fs',hfs⟩:=und58
 have HT:Hid _:=hfs
 clear hfs
 have H0:Hid (∀ Z,((w.alloc (.cells (z0c f u) 32)).alloc Z).heap[w.heap.size]?=some (.cells (z0c f u) 32)):=fun Z=>z0m ((Below.refl _ _).alloc (Nat.le_refl _) _)
 have Z0:Hid (∀ Z,((w.alloc (.cells (z0c f u) 32)).alloc Z).heap[w.heap.size+1]?=some Z):=fun Z=>by have:=z0g (w.alloc (.cells (z0c f u) 32)) Z;rwa [World.size_alloc] at this
 have hh:n≠768∧n≠772∧n≠773∧n≠832∧n≠833∧n≠834∧n≠835∧¬(1984≤n∧n<2000):=by
  unfold z2f at h
  repeat' split at h
  all_goals first | (cases h;done) | (refine⟨?_,?_,?_,?_,?_,?_,?_,?_⟩ <;> assumption)
 obtain⟨z1,z2,z3,z4,z5,z6,z7,z8⟩:=hh
 have m768:(n==768)=false:=by simp;omega
 have m772:(n==772)=false:=by simp;omega
 have m773:(n==773)=false:=by simp;omega
 have m832:(n==832)=false:=by simp;omega
 have m833:(n==833)=false:=by simp;omega
 have m834:(n==834)=false:=by simp;omega
 have m835:(n==835)=false:=by simp;omega
 have m836:(n==836)=false:=by simp;omega
 have m3072:(n==3072)=false:=by simp;omega
 clear h h1 h2 z1 z2 z3 z4 z5 z6 z7
 by_cases c:n<1984
 ·clear z8
  go_enter Tryz.func89,Tryz.ntmps89
  go_wp2_with (first | (refine wpList_load_row rfl 32 (.tmp 3) rfl _ rfl _ _ _ _ (H0.out _) HS.out rfl (by rw[z0b];exact z0o) ?_) | (refine z4x rfl (.tmp 14) 2 rfl _ _ rfl ?_) | (refine wpList_store_row rfl 138 (.tmp 6) (.tmp 15) rfl _ (z2s _ _ _) rfl rfl _ _ (Z0.out _) (by rw[z0r];exact z3e) (by rw[z0r];rfl) (z2c _ _ _) ?_))
  exact bodyPost_ret (results_cell_row rfl _ _ _ _ _ _ _ rfl (setRow_heap _ _ _ _ _ _ (Z0.out _)) HT.out rfl (by rw[z0r];exact z3e)) rfl ⟨rfl,below_setRow box2 (Nat.le_succ _) _⟩
 ·have c2:2000≤n:=by omega
  clear z8
  go_enter Tryz.func89,Tryz.ntmps89
  go_wp2_with (first | (refine wpList_load_row rfl 32 (.tmp 3) rfl _ rfl _ _ _ _ (H0.out _) HS.out rfl (by rw[z0b];exact z0o) ?_) | (refine z4x rfl (.tmp 14) 2 rfl _ _ rfl ?_) | (refine wpList_store_row rfl 138 (.tmp 6) (.tmp 15) rfl _ (z2s _ _ _) rfl rfl _ _ (Z0.out _) (by rw[z0r];exact z3e) (by rw[z0r];rfl) (z2c _ _ _) ?_))
  exact bodyPost_ret (results_cell_row rfl _ _ _ _ _ _ _ rfl (setRow_heap _ _ _ _ _ _ (Z0.out _)) HT.out rfl (by rw[z0r];exact z3e)) rfl ⟨rfl,below_setRow box2 (Nat.le_succ _) _⟩
theorem rWrite_768 (f:Nat→Int) (u:Bool) (x:Int) (hx:U32 x) (w:World) :
  Calls Tryz.prog 89 #[.agg (z0c f u),.int .i64 768,.int .u32 x] w fun e w'=>e=.returned (.agg (z2s (set1 f 34 (statV x)) u 0))∧Below w.heap.size w w':=by
 have hbox:=z3r f u
 obtain⟨fs,hfs⟩:=z3f
 have HS:Hid _:=hfs
 clear hfs
 obtain⟨fs',hfs⟩:=und58
 have HT:Hid _:=hfs
 clear hfs
 have H0:Hid (∀ Z,((w.alloc (.cells (z0c f u) 32)).alloc Z).heap[w.heap.size]?=some (.cells (z0c f u) 32)):=fun Z=>z0m ((Below.refl _ _).alloc (Nat.le_refl _) _)
 have Z0:Hid (∀ Z,((w.alloc (.cells (z0c f u) 32)).alloc Z).heap[w.heap.size+1]?=some Z):=fun Z=>by have:=z0g (w.alloc (.cells (z0c f u) 32)) Z;rwa [World.size_alloc] at this
 have HB:Hid _:=z4k x 11 2 hx
 have HR:Hid (statV x=if z0j x 11 2=3 then bits .or .u32 (bits .and .u32 x 136) 6144 else bits .and .u32 x 136):=rfl
 generalize z0j x 11 2=y at *
 by_cases h3:y=3
 ·have b3:(y==3)=true:=by simpa using h3
  have e3:=HR.out
  rw[if_pos h3] at e3
  have HE:Hid _:=e3
  clear HR h3 e3 hx
  go_enter Tryz.func89,Tryz.ntmps89
  go_wp2_with (first | (refine z0h rfl rfl rfl rfl (H0.out _) (by decide) (by decide) ?_;intro wn HBn HO HL;have HZn:=Eq.trans (HO (w.heap.size+1) (by omega)) (Z0.out _);have HLn:=HL w.heap.size w (Nat.le_refl _) box2;clear HO HL) | (refine z0h rfl rfl rfl rfl (by assumption) (by decide) (by decide) ?_;intro wn HBn HO HL;have HZn:=Eq.trans (HO (w.heap.size+1) (by omega)) (by assumption);have HLn:=HL w.heap.size w (Nat.le_refl _) (by assumption);clear HO HL) | (refine wpList_load_row rfl 32 (.tmp 3) rfl _ rfl _ _ _ _ (by assumption) HS.out rfl (by rw[z0b];exact z0o) ?_) | (refine z1y rfl (.tmp 67) rfl _ _ rfl ?_) | (refine wpList_store_row rfl 138 (.tmp 6) (.tmp 68) rfl _ (z2s _ _ _) rfl rfl _ _ (by assumption) (by rw[z0r];exact z3e) (by rw[z0r];rfl) (z2c _ _ _) ?_))
  refine (HB.out _).mono ?_
  rintro e wq ⟨rfl,rfl⟩
  go_wp2_with (first | (refine z0k rfl rfl rfl (by assumption) (by decide) (by decide) ?_) | (refine z0h rfl rfl rfl rfl (H0.out _) (by decide) (by decide) ?_;intro wn HBn HO HL;have HZn:=Eq.trans (HO (w.heap.size+1) (by omega)) (Z0.out _);have HLn:=HL w.heap.size w (Nat.le_refl _) box2;clear HO HL) | (refine z0h rfl rfl rfl rfl (by assumption) (by decide) (by decide) ?_;intro wn HBn HO HL;have HZn:=Eq.trans (HO (w.heap.size+1) (by omega)) (by assumption);have HLn:=HL w.heap.size w (Nat.le_refl _) (by assumption);clear HO HL) | (refine wpList_load_row rfl 32 (.tmp 3) rfl _ rfl _ _ _ _ (by assumption) HS.out rfl (by rw[z0b];exact z0o) ?_) | (refine z1y rfl (.tmp 67) rfl _ _ rfl ?_) | (refine wpList_store_row rfl 138 (.tmp 6) (.tmp 68) rfl _ (z2s _ _ _) rfl rfl _ _ (by assumption) (by rw[z0r];exact z3e) (by rw[z0r];rfl) (z2c _ _ _) ?_))
  exact bodyPost_ret (results_cell_row rfl _ _ _ _ _ _ _ rfl (setRow_heap _ _ _ _ _ _ (by assumption)) HT.out rfl (by rw[z0r];exact z3e)) rfl ⟨ret58 fun i _ _=>(by rw[HE.out];exact set1_twice _ _ _ _ _),below_setRow (by assumption) (Nat.le_succ _) _⟩
 ·have b3:(y==3)=false:=by simpa using h3
  have e3:=HR.out
  rw[if_neg h3] at e3
  have HE:Hid _:=e3
  clear HR h3 e3 hx
  go_enter Tryz.func89,Tryz.ntmps89
  go_wp2_with (first | (refine z0h rfl rfl rfl rfl (H0.out _) (by decide) (by decide) ?_;intro wn HBn HO HL;have HZn:=Eq.trans (HO (w.heap.size+1) (by omega)) (Z0.out _);have HLn:=HL w.heap.size w (Nat.le_refl _) box2;clear HO HL) | (refine z0h rfl rfl rfl rfl (by assumption) (by decide) (by decide) ?_;intro wn HBn HO HL;have HZn:=Eq.trans (HO (w.heap.size+1) (by omega)) (by assumption);have HLn:=HL w.heap.size w (Nat.le_refl _) (by assumption);clear HO HL) | (refine wpList_load_row rfl 32 (.tmp 3) rfl _ rfl _ _ _ _ (by assumption) HS.out rfl (by rw[z0b];exact z0o) ?_) | (refine z1y rfl (.tmp 67) rfl _ _ rfl ?_) | (refine wpList_store_row rfl 138 (.tmp 6) (.tmp 68) rfl _ (z2s _ _ _) rfl rfl _ _ (by assumption) (by rw[z0r];exact z3e) (by rw[z0r];rfl) (z2c _ _ _) ?_))
  refine (HB.out _).mono ?_
  rintro e wq ⟨rfl,rfl⟩
  go_wp2_with (first | (refine z0k rfl rfl rfl (by assumption) (by decide) (by decide) ?_) | (refine z0h rfl rfl rfl rfl (H0.out _) (by decide) (by decide) ?_;intro wn HBn HO HL;have HZn:=Eq.trans (HO (w.heap.size+1) (by omega)) (Z0.out _);have HLn:=HL w.heap.size w (Nat.le_refl _) box2;clear HO HL) | (refine z0h rfl rfl rfl rfl (by assumption) (by decide) (by decide) ?_;intro wn HBn HO HL;have HZn:=Eq.trans (HO (w.heap.size+1) (by omega)) (by assumption);have HLn:=HL w.heap.size w (Nat.le_refl _) (by assumption);clear HO HL) | (refine wpList_load_row rfl 32 (.tmp 3) rfl _ rfl _ _ _ _ (by assumption) HS.out rfl (by rw[z0b];exact z0o) ?_) | (refine z1y rfl (.tmp 67) rfl _ _ rfl ?_) | (refine wpList_store_row rfl 138 (.tmp 6) (.tmp 68) rfl _ (z2s _ _ _) rfl rfl _ _ (by assumption) (by rw[z0r];exact z3e) (by rw[z0r];rfl) (z2c _ _ _) ?_))
  exact bodyPost_ret (results_cell_row rfl _ _ _ _ _ _ _ rfl (setRow_heap _ _ _ _ _ _ (by assumption)) HT.out rfl (by rw[z0r];exact z3e)) rfl ⟨by rw[HE.out],below_setRow (by assumption) (Nat.le_succ _) _⟩
theorem rRead_3072 (f:Nat→Int) (u:Bool) (now:Int) (due:Bool) (w:World) :
  Calls Tryz.prog 88 #[.agg (z0c f u),.int .i64 3072,.int .i64 now,.bool due] w fun e w'=>e=.returned (gotA (now%4294967296) 0)∧Below w.heap.size w w':=by
 have hbox:=z3r f u
 have HL:Hid _:=rlow now
 generalize now%4294967296=y at *
 go_enter Tryz.func88,Tryz.ntmps88
 go_wp2_with fail
 refine (HL.out _).mono ?_
 rintro e w1 ⟨rfl,hw1⟩
 have hA:=z0g (w.alloc (.cells (z0c f u) 32)) (.cells #[.int .u32 0,.int .i64 0] 81)
 rw[World.size_alloc] at hA
 have K:=z0f hA ((Below.refl _ _).alloc (Nat.le_refl _) (.cells #[.int .u32 y,.int .i64 0] 81))
 have B:Below w.heap.size w w1:=by rw[hw1];exact box2.alloc (by simp;omega) _
 rw[← hw1] at K
 clear hw1 hA
 obtain⟨cc,cf,cs⟩:=z0a K
 have c0:=cc 0 _ rfl
 have c1:=cc 1 _ rfl
 have f0:=cf 0
 have f1:=cf 1
 clear cc cf K
 go_wp2
 exact bodyPost_ret (v:=gotA y 0) (by simp[results,Tryz.results88,go_sem,gotA,c0,c1]) rfl ⟨rfl,(B.setCell (Nat.le_succ _) _).setCell (Nat.le_succ _) _⟩
theorem rReadC (f:Nat→Int) (u:Bool) (n now:Int) (due:Bool) (w:World) :
  Calls Tryz.prog 88 #[.agg (z0c f u),.int .i64 n,.int .i64 now,.bool due] w fun e w'=>e=.returned (gotA (z4e f n now due) (z2b n))∧Below w.heap.size w w':=by
 by_cases h1:n=836
 ·subst h1;exact rRead_836 f u now due w
 ·by_cases h2:n=3072
  ·subst h2;exact rRead_3072 f u now due w
  ·by_cases a1:n=768
   ·subst a1;exact rRead_768 f u now due w
   by_cases a2:n=772
   ·subst a2;exact rRead_772 f u now due w
   by_cases a3:n=773
   ·subst a3;exact rRead_773 f u now due w
   by_cases a4:n=832
   ·subst a4;exact rRead_832 f u now due w
   by_cases a5:n=833
   ·subst a5;exact rRead_833 f u now due w
   by_cases a6:n=834
   ·subst a6;exact rRead_834 f u now due w
   by_cases a7:n=835
   ·subst a7;exact rRead_835 f u now due w
   by_cases a8:1984≤n∧n<2000
   ·obtain⟨k,hk⟩:=Int.eq_ofNat_of_zero_le (show 0≤n-1984 by omega)
    have en:n=1984+(k:Int):=by omega
    have hc:z2f n=some (41+k):=by
     unfold z2f
     rw[if_neg a1,if_neg a2,if_neg a3,if_neg a4,if_neg a5,if_neg a6,if_neg a7,if_pos a8,hk]
     rfl
    have e1:z4e f n now due=f (41+k):=by unfold z4e;rw[if_neg h1,if_neg h2,hc]
    have e2:z2b n=0:=by unfold z2b;rw[if_pos (Or.inr (Or.inr (by rw[hc];rfl)))]
    rw[e1,e2,en]
    exact rRead_guard f u k now due (by omega) w
   ·have hc:z2f n=none:=by
     unfold z2f
     rw[if_neg a1,if_neg a2,if_neg a3,if_neg a4,if_neg a5,if_neg a6,if_neg a7,if_neg a8]
    have e1:z4e f n now due=0:=by unfold z4e;rw[if_neg h1,if_neg h2,hc]
    have e2:z2b n=2:=by unfold z2b;rw[if_neg (by rw[hc];simp[h1,h2])]
    rw[e1,e2]
    exact rRead_none f u n now due hc h1 h2 w
def z7t (n x:Int):Int:=if n=768 then statV x else if n=772 then bits .and .u32 x 128 else if n=773∨n=833 then x/4*4 else x
def z2o (f:Nat→Int) (n x:Int):Nat→Int:=match z2f n with
 | some i=>set1 f i (z7t n x)
 | none=>f
def z2y (n:Int):Int:=if n=836∨n=3072 then 7 else if (z2f n).isSome then 0 else 2
theorem rWrite (f:Nat→Int) (u:Bool) (n x:Int) (hx:U32 x) (w:World) :
  Calls Tryz.prog 89 #[.agg (z0c f u),.int .i64 n,.int .u32 x] w fun e w'=>e=.returned (.agg (z2s (z2o f n x) u (z2y n)))∧Below w.heap.size w w':=by
 by_cases h1:n=836
 ·subst h1;exact rWrite_836 f u x w
 ·by_cases h2:n=3072
  ·subst h2;exact rWrite_3072 f u x w
  ·by_cases a1:n=768
   ·subst a1;exact rWrite_768 f u x hx w
   by_cases a2:n=772
   ·subst a2;exact rWrite_772 f u x w
   by_cases a3:n=773
   ·subst a3;exact rWrite_773 f u x hx w
   by_cases a4:n=832
   ·subst a4;exact rWrite_832 f u x w
   by_cases a5:n=833
   ·subst a5;exact rWrite_833 f u x hx w
   by_cases a6:n=834
   ·subst a6;exact rWrite_834 f u x w
   by_cases a7:n=835
   ·subst a7;exact rWrite_835 f u x w
   by_cases a8:1984≤n∧n<2000
   ·obtain⟨k,hk⟩:=Int.eq_ofNat_of_zero_le (show 0≤n-1984 by omega)
    have en:n=1984+(k:Int):=by omega
    have hc:z2f n=some (41+k):=by
     unfold z2f
     rw[if_neg a1,if_neg a2,if_neg a3,if_neg a4,if_neg a5,if_neg a6,if_neg a7,if_pos a8,hk]
     rfl
    have e0:z7t n x=x:=by unfold z7t;rw[if_neg a1,if_neg a2,if_neg (by omega)]
    have e1:z2o f n x=set1 f (41+k) x:=by unfold z2o;rw[hc,e0]
    have e2:z2y n=0:=by unfold z2y;rw[if_neg (by omega),hc];rfl
    rw[e1,e2,en]
    exact rWrite_guard f u x k (by omega) w
   ·have hc:z2f n=none:=by
     unfold z2f
     rw[if_neg a1,if_neg a2,if_neg a3,if_neg a4,if_neg a5,if_neg a6,if_neg a7,if_neg a8]
    have e1:z2o f n x=f:=by unfold z2o;rw[hc]
    have e2:z2y n=2:=by unfold z2y;rw[if_neg (by omega),hc];rfl
    rw[e1,e2]
    exact rWrite_none f u x n hc h1 h2 w
theorem und_32:Tryz.prog.underlying 29=some (.array 32 28):=by kernel_rfl
theorem eqA32 (f:Nat→Int) (w:World):(Op.equalIn 9999 29 (.agg #[.int .u32 (f 0),.int .u32 (f 1),.int .u32 (f 2),.int .u32 (f 3),.int .u32 (f 4),.int .u32 (f 5),.int .u32 (f 6),.int .u32 (f 7),.int .u32 (f 8),.int .u32 (f 9),.int .u32 (f 10),.int .u32 (f 11),.int .u32 (f 12),.int .u32 (f 13),.int .u32 (f 14),.int .u32 (f 15),.int .u32 (f 16),.int .u32 (f 17),.int .u32 (f 18),.int .u32 (f 19),.int .u32 (f 20),.int .u32 (f 21),.int .u32 (f 22),.int .u32 (f 23),.int .u32 (f 24),.int .u32 (f 25),.int .u32 (f 26),.int .u32 (f 27),.int .u32 (f 28),.int .u32 (f 29),.int .u32 (f 30),.int .u32 (f 31)]) (.agg #[.int .u32 (f 0),.int .u32 (f 1),.int .u32 (f 2),.int .u32 (f 3),.int .u32 (f 4),.int .u32 (f 5),.int .u32 (f 6),.int .u32 (f 7),.int .u32 (f 8),.int .u32 (f 9),.int .u32 (f 10),.int .u32 (f 11),.int .u32 (f 12),.int .u32 (f 13),.int .u32 (f 14),.int .u32 (f 15),.int .u32 (f 16),.int .u32 (f 17),.int .u32 (f 18),.int .u32 (f 19),.int .u32 (f 20),.int .u32 (f 21),.int .u32 (f 22),.int .u32 (f 23),.int .u32 (f 24),.int .u32 (f 25),.int .u32 (f 26),.int .u32 (f 27),.int .u32 (f 28),.int .u32 (f 29),.int .u32 (f 30),.int .u32 (f 31)])).run Tryz.prog w=.ok true w:=by
 have u3:=Tryz.underlying28
 have a3:=Tryz.isAgg28
 have z3:=Tryz.sizeOf28
 rw[show (9999:Nat)=9998+1 from rfl,Op.equalIn]
 simp only[Sem.run_bind,run_underlying und_32,Result.andThen_ok]
 simp only[Std.Legacy.Range.forIn_eq_forIn_range',Std.Legacy.Range.size,Nat.sub_zero,Nat.add_sub_cancel,Nat.div_one,List.range'_succ,List.range'_zero,List.forIn_cons,List.forIn_nil]
 go_simp
theorem und_16:Tryz.prog.underlying 30=some (.array 16 28):=by kernel_rfl
theorem eqA16 (f:Nat→Int) (w:World):(Op.equalIn 9999 30 (.agg #[.int .u32 (f 0),.int .u32 (f 1),.int .u32 (f 2),.int .u32 (f 3),.int .u32 (f 4),.int .u32 (f 5),.int .u32 (f 6),.int .u32 (f 7),.int .u32 (f 8),.int .u32 (f 9),.int .u32 (f 10),.int .u32 (f 11),.int .u32 (f 12),.int .u32 (f 13),.int .u32 (f 14),.int .u32 (f 15)]) (.agg #[.int .u32 (f 0),.int .u32 (f 1),.int .u32 (f 2),.int .u32 (f 3),.int .u32 (f 4),.int .u32 (f 5),.int .u32 (f 6),.int .u32 (f 7),.int .u32 (f 8),.int .u32 (f 9),.int .u32 (f 10),.int .u32 (f 11),.int .u32 (f 12),.int .u32 (f 13),.int .u32 (f 14),.int .u32 (f 15)])).run Tryz.prog w=.ok true w:=by
 have u3:=Tryz.underlying28
 have a3:=Tryz.isAgg28
 have z3:=Tryz.sizeOf28
 rw[show (9999:Nat)=9998+1 from rfl,Op.equalIn]
 simp only[Sem.run_bind,run_underlying und_16,Result.andThen_ok]
 simp only[Std.Legacy.Range.forIn_eq_forIn_range',Std.Legacy.Range.size,Nat.sub_zero,Nat.add_sub_cancel,Nat.div_one,List.range'_succ,List.range'_zero,List.forIn_cons,List.forIn_nil]
 go_simp
theorem part_X (f:Nat→Int) (u:Bool) (w:World):(part 29 #[.int .u32 (f 0),.int .u32 (f 1),.int .u32 (f 2),.int .u32 (f 3),.int .u32 (f 4),.int .u32 (f 5),.int .u32 (f 6),.int .u32 (f 7),.int .u32 (f 8),.int .u32 (f 9),.int .u32 (f 10),.int .u32 (f 11),.int .u32 (f 12),.int .u32 (f 13),.int .u32 (f 14),.int .u32 (f 15),.int .u32 (f 16),.int .u32 (f 17),.int .u32 (f 18),.int .u32 (f 19),.int .u32 (f 20),.int .u32 (f 21),.int .u32 (f 22),.int .u32 (f 23),.int .u32 (f 24),.int .u32 (f 25),.int .u32 (f 26),.int .u32 (f 27),.int .u32 (f 28),.int .u32 (f 29),.int .u32 (f 30),.int .u32 (f 31),.int .u32 (f 32),.bool u,.int .u32 (f 34),.int .u32 (f 35),.int .u32 (f 36),.int .u32 (f 37),.int .u32 (f 38),.int .u32 (f 39),.int .u32 (f 40),.int .u32 (f 41),.int .u32 (f 42),.int .u32 (f 43),.int .u32 (f 44),.int .u32 (f 45),.int .u32 (f 46),.int .u32 (f 47),.int .u32 (f 48),.int .u32 (f 49),.int .u32 (f 50),.int .u32 (f 51),.int .u32 (f 52),.int .u32 (f 53),.int .u32 (f 54),.int .u32 (f 55),.int .u32 (f 56)] 0).run Tryz.prog w=.ok (.agg #[.int .u32 (f 0),.int .u32 (f 1),.int .u32 (f 2),.int .u32 (f 3),.int .u32 (f 4),.int .u32 (f 5),.int .u32 (f 6),.int .u32 (f 7),.int .u32 (f 8),.int .u32 (f 9),.int .u32 (f 10),.int .u32 (f 11),.int .u32 (f 12),.int .u32 (f 13),.int .u32 (f 14),.int .u32 (f 15),.int .u32 (f 16),.int .u32 (f 17),.int .u32 (f 18),.int .u32 (f 19),.int .u32 (f 20),.int .u32 (f 21),.int .u32 (f 22),.int .u32 (f 23),.int .u32 (f 24),.int .u32 (f 25),.int .u32 (f 26),.int .u32 (f 27),.int .u32 (f 28),.int .u32 (f 29),.int .u32 (f 30),.int .u32 (f 31)]) w:=by kernel_rfl
theorem part_G (f:Nat→Int) (u:Bool) (w:World):(part 30 #[.int .u32 (f 0),.int .u32 (f 1),.int .u32 (f 2),.int .u32 (f 3),.int .u32 (f 4),.int .u32 (f 5),.int .u32 (f 6),.int .u32 (f 7),.int .u32 (f 8),.int .u32 (f 9),.int .u32 (f 10),.int .u32 (f 11),.int .u32 (f 12),.int .u32 (f 13),.int .u32 (f 14),.int .u32 (f 15),.int .u32 (f 16),.int .u32 (f 17),.int .u32 (f 18),.int .u32 (f 19),.int .u32 (f 20),.int .u32 (f 21),.int .u32 (f 22),.int .u32 (f 23),.int .u32 (f 24),.int .u32 (f 25),.int .u32 (f 26),.int .u32 (f 27),.int .u32 (f 28),.int .u32 (f 29),.int .u32 (f 30),.int .u32 (f 31),.int .u32 (f 32),.bool u,.int .u32 (f 34),.int .u32 (f 35),.int .u32 (f 36),.int .u32 (f 37),.int .u32 (f 38),.int .u32 (f 39),.int .u32 (f 40),.int .u32 (f 41),.int .u32 (f 42),.int .u32 (f 43),.int .u32 (f 44),.int .u32 (f 45),.int .u32 (f 46),.int .u32 (f 47),.int .u32 (f 48),.int .u32 (f 49),.int .u32 (f 50),.int .u32 (f 51),.int .u32 (f 52),.int .u32 (f 53),.int .u32 (f 54),.int .u32 (f 55),.int .u32 (f 56)] 41).run Tryz.prog w=.ok (.agg #[.int .u32 (f 41),.int .u32 (f 42),.int .u32 (f 43),.int .u32 (f 44),.int .u32 (f 45),.int .u32 (f 46),.int .u32 (f 47),.int .u32 (f 48),.int .u32 (f 49),.int .u32 (f 50),.int .u32 (f 51),.int .u32 (f 52),.int .u32 (f 53),.int .u32 (f 54),.int .u32 (f 55),.int .u32 (f 56)]) w:=by kernel_rfl
theorem eq57 (f:Nat→Int) (u:Bool) (w:World):(Op.equalIn 10000 32 (.agg (z0c f u)) (.agg (z0c f u))).run Tryz.prog w=.ok true w:=by
 have u3:=Tryz.underlying28
 have a3:=Tryz.isAgg28
 have z3:=Tryz.sizeOf28
 have u4:=Tryz.underlying4
 have a4:=Tryz.isAgg4
 have z4:=Tryz.sizeOf4
 have hS:Tryz.prog.underlying 32=some (.struct (Tryz.prog.fieldsOf 32)):=by kernel_rfl
 have hp:Tryz.prog.stoodInHeld 32=false:=by kernel_rfl
 have pX:=part_X f u
 have pG:=part_G f u
 have eX:=eqA32 f
 have eG:=eqA16 (fun i=>f (41+i))
 show (Op.equalIn 10000 32 (.agg #[.int .u32 (f 0),.int .u32 (f 1),.int .u32 (f 2),.int .u32 (f 3),.int .u32 (f 4),.int .u32 (f 5),.int .u32 (f 6),.int .u32 (f 7),.int .u32 (f 8),.int .u32 (f 9),.int .u32 (f 10),.int .u32 (f 11),.int .u32 (f 12),.int .u32 (f 13),.int .u32 (f 14),.int .u32 (f 15),.int .u32 (f 16),.int .u32 (f 17),.int .u32 (f 18),.int .u32 (f 19),.int .u32 (f 20),.int .u32 (f 21),.int .u32 (f 22),.int .u32 (f 23),.int .u32 (f 24),.int .u32 (f 25),.int .u32 (f 26),.int .u32 (f 27),.int .u32 (f 28),.int .u32 (f 29),.int .u32 (f 30),.int .u32 (f 31),.int .u32 (f 32),.bool u,.int .u32 (f 34),.int .u32 (f 35),.int .u32 (f 36),.int .u32 (f 37),.int .u32 (f 38),.int .u32 (f 39),.int .u32 (f 40),.int .u32 (f 41),.int .u32 (f 42),.int .u32 (f 43),.int .u32 (f 44),.int .u32 (f 45),.int .u32 (f 46),.int .u32 (f 47),.int .u32 (f 48),.int .u32 (f 49),.int .u32 (f 50),.int .u32 (f 51),.int .u32 (f 52),.int .u32 (f 53),.int .u32 (f 54),.int .u32 (f 55),.int .u32 (f 56)]) (.agg #[.int .u32 (f 0),.int .u32 (f 1),.int .u32 (f 2),.int .u32 (f 3),.int .u32 (f 4),.int .u32 (f 5),.int .u32 (f 6),.int .u32 (f 7),.int .u32 (f 8),.int .u32 (f 9),.int .u32 (f 10),.int .u32 (f 11),.int .u32 (f 12),.int .u32 (f 13),.int .u32 (f 14),.int .u32 (f 15),.int .u32 (f 16),.int .u32 (f 17),.int .u32 (f 18),.int .u32 (f 19),.int .u32 (f 20),.int .u32 (f 21),.int .u32 (f 22),.int .u32 (f 23),.int .u32 (f 24),.int .u32 (f 25),.int .u32 (f 26),.int .u32 (f 27),.int .u32 (f 28),.int .u32 (f 29),.int .u32 (f 30),.int .u32 (f 31),.int .u32 (f 32),.bool u,.int .u32 (f 34),.int .u32 (f 35),.int .u32 (f 36),.int .u32 (f 37),.int .u32 (f 38),.int .u32 (f 39),.int .u32 (f 40),.int .u32 (f 41),.int .u32 (f 42),.int .u32 (f 43),.int .u32 (f 44),.int .u32 (f 45),.int .u32 (f 46),.int .u32 (f 47),.int .u32 (f 48),.int .u32 (f 49),.int .u32 (f 50),.int .u32 (f 51),.int .u32 (f 52),.int .u32 (f 53),.int .u32 (f 54),.int .u32 (f 55),.int .u32 (f 56)])).run Tryz.prog w=.ok true w
 rw[show (10000:Nat)=9999+1 from rfl,run_equalIn_agg w 9999 32 _ _ hS hp]
 simp only[Program.fieldsOf,Tryz.underlying32]
 go_simp
section
def r16 (g:Nat→Int):Array Value:=((List.range 16).map fun i=>Value.int .u32 (g i)).toArray
theorem r16_at (g:Nat→Int) (i:Nat) (h:i<16):(r16 g)[i]?=some (.int .u32 (g i)):=by simp[r16,h]
def wat (l:List Int) (n j:Nat):Int:=if j<n then l.getD j 0 else 0
theorem wat_u {l:List Int} (hl:∀ z∈l,U32 z) (n i:Nat):U32 (wat l n i):=by
 unfold wat
 split
 ·rw[List.getD_eq_getElem?_getD]
  cases hi:l[i]? with
  | none=>simp[U32]
  | some z=>simpa using hl z (List.mem_of_getElem? hi)
 ·simp[U32]
section
variable {ops:Array Oper} {rest:List Oper} {o:Oper} {a:Act} {w:World} {Q:Exit→Act→World→Prop}
theorem z9h (hgd:o.guard=none) {x:Operand} (ho:o.op=.load 28 x) {b i:Nat} (hx:a.eval x=.pointer (some ⟨b,i,none⟩)) {g:Nat→Int} {t:TypeId} (hw:w.heap[b]?=some (.cells (r16 g) t)) (hi:i<16)
  (h:wpList Tryz.prog ops Q rest (a.put o.dst (.int .u32 (g i))) w):wpList Tryz.prog ops Q (o::rest) a w:=
 z8k hgd ho hx hw (r16_at g i hi) h
theorem builtU (u:Bool):Tryz.prog.built 32 [(2,.bool u)]=some (z0c (fun _=>0) u):=by kernel_rfl
theorem wpList_builtU (hg:o.guard=none) (x:Operand) (ho:o.op=.build 32 #[(2,x)]) (u:Bool) (hx:a.eval x=.bool u)
  (h:wpList Tryz.prog ops Q rest (a.put o.dst (.agg (z0c (fun _=>0) u))) w):wpList Tryz.prog ops Q (o::rest) a w:=by
 have e:(#[(2,x)].map fun (i,x)=>(i,a.eval x)).toList=[(2,Value.bool u)]:=by simp[hx]
 refine wpList_build hg _ _ ho ?_ ?_
 ·rw[e,builtU];rfl
 ·rw[e,builtU];exact h
end
theorem splice16 (l:List Int) (n m:Nat) (hm:m=min n 16):(splice (List.replicate 16 (Value.int .u32 0)) 0 ((List.range m).map fun i=>Value.int .u32 (l.getD i 0))).toArray=r16 (wat l n):=by
 unfold r16
 congr 1
 apply List.ext_getElem?
 intro i
 unfold splice
 simp only[List.take_zero,List.nil_append,List.length_map,List.length_range,Nat.zero_add]
 by_cases h1:i<m
 ·rw[List.getElem?_append_left (by simpa using h1)]
  have h2:i<16:=by omega
  have h3:i<n:=by omega
  simp[h1,h2,wat,h3]
 ·rw[List.getElem?_append_right (by simpa using h1)]
  simp only[List.length_map,List.length_range,List.drop_replicate]
  by_cases h2:i<16
  ·have h3:¬i<n:=by omega
   have h4:i-m<16-m:=by omega
   simp[h2,wat,h3,h4]
  ·have h4:¬i-m<16-m:=by omega
   simp[h2,h4]
def regsP (g:Nat→Int) (k i:Nat):Int:=
 if i<8 then (if i<k then g (15-i) else 0) else if i=32 then g 0 else if i=34 then bits .and .u32 (g 1) 6280 else if 35≤i∧i≤40 then g (i-33)
 else if 41≤i∧i<49 then (if i<41+k then g (8+(i-41)) else 0) else 0
def regsF (l:List Int) (n:Nat):Nat→Int:=regsP (wat l n) 8
theorem regsP_u {g:Nat→Int} (hg:∀ i,U32 (g i)) (k i:Nat):U32 (regsP g k i):=by
 unfold regsP
 repeat' split
 all_goals first | exact hg _ | exact z1t _ _ _ | simp[U32]
theorem regsP_next (g:Nat→Int) (k:Nat) (hk:k<8) (i:Nat):set1 (set1 (regsP g k) (41+k) (g (8+k))) k (g (15-k)) i=regsP g (k+1) i:=by
 unfold set1 regsP
 by_cases h1:i=k
 ·subst h1
  rw[if_pos rfl,if_pos hk,if_pos (by omega)]
 ·rw[if_neg h1]
  by_cases h2:i=41+k
  ·subst h2
   rw[if_pos rfl,if_neg (by omega),if_neg (by omega),if_neg (by omega),if_neg (by omega),if_pos (by omega),if_pos (by omega),show 8+(41+k-41)=8+k by omega]
  ·rw[if_neg h2]
   by_cases h3:i<8
   ·rw[if_pos h3,if_pos h3]
    by_cases h4:i<k
    ·rw[if_pos h4,if_pos (by omega)]
    ·rw[if_neg h4,if_neg (by omega)]
   ·rw[if_neg h3,if_neg h3]
    by_cases h4:41≤i∧i<49
    ·have e1:¬i=32:=by omega
     have e2:¬i=34:=by omega
     have e3:¬(35≤i∧i≤40):=by omega
     rw[if_neg e1,if_neg e1,if_neg e2,if_neg e2,if_neg e3,if_neg e3,if_pos h4,if_pos h4]
     by_cases h5:i<41+k
     ·rw[if_pos h5,if_pos (by omega)]
     ·rw[if_neg h5,if_neg (by omega)]
    ·rw[if_neg h4,if_neg h4]
theorem regsP_zero (g:Nat→Int) (i:Nat):set1 (set1 (set1 (set1 (set1 (set1 (set1 (set1 (fun _=>0) 32 (g 0)) 34 (bits .and .u32 (g 1) 6280)) 35 (g 2)) 36 (g 3)) 37 (g 4)) 38 (g 5)) 39 (g 6)) 40 (g 7) i=regsP g 0 i:=by
 by_cases h:32≤i∧i≤40
 ·have:i=32∨i=33∨i=34∨i=35∨i=36∨i=37∨i=38∨i=39∨i=40:=by omega
  rcases this with rfl | rfl | rfl | rfl | rfl | rfl | rfl | rfl | rfl <;> simp[set1,regsP]
 ·have e1:¬i=32:=by omega
  have e2:¬i=34:=by omega
  have e3:¬(35≤i∧i≤40):=by omega
  have e4:¬i=35:=by omega
  have e5:¬i=36:=by omega
  have e6:¬i=37:=by omega
  have e7:¬i=38:=by omega
  have e8:¬i=39:=by omega
  have e9:¬i=40:=by omega
  unfold set1 regsP
  rw[if_neg e9,if_neg e8,if_neg e7,if_neg e6,if_neg e5,if_neg e4,if_neg e2,if_neg e1,if_neg e1,if_neg e2,if_neg e3]
  split
  ·rw[if_neg (Nat.not_lt_zero _)]
  ·split
   ·rw[if_neg (by omega)]
   ·rfl
structure RegSt (w:World) (g:Nat→Int) (u:Bool) (k:Nat) (wr:World):Prop where
 res:wr.heap[w.heap.size]?=some (.cells (z0c (fun _=>0) false) 32)
 r:wr.heap[w.heap.size+1]?=some (.cells (z0c (regsP g k) u) 32)
 at':wr.heap[w.heap.size+1+1]?=some (.cells (r16 g) 28)
 below:Below w.heap.size w wr
theorem lregs (sa:Option Addr) (b off n cap:Nat) (l:List Int) (u:Bool) (w:World) (hm:n≤maxLen) (hsa:0<n→sa=some ⟨b,off,none⟩∧b<w.heap.size) (hc:∀ i,i<n→w.cell? ⟨b,off+i,none⟩=some (.int .u32 (l.getD i 0))) :
  Calls Tryz.prog 21 #[.slice sa n cap,.bool u] w fun e w'=>e=.returned (.agg (z0c (regsF l n) u))∧Below w.heap.size w w':=by
 unfold maxLen at hm
 have HC:Hid _:=hc
 have HA:Hid _:=hsa
 clear hc hsa
 obtain⟨fs,hfs⟩:=z3f
 have HS:Hid _:=hfs
 clear hfs
 have hmk:∀ w,(Instr.makeSlice 23 (.int .i64 16) (.int .i64 16)).run Tryz.prog w=.ok (.slice (some ⟨w.heap.size,0,none⟩) 16 16) (w.alloc (.cells (List.replicate 16 (.int .u32 0)).toArray 28)):=fun w=>by kernel_rfl
 have X1:Hid (∀ A C R D,((((w.alloc A).alloc C).setRow (w.heap.size+1) R).alloc D).heap[w.heap.size+1+1]?=some D):=fun A C R D=>by
  have:=z0g (((w.alloc A).alloc C).setRow (w.heap.size+1) R) D
  rwa [setRow_size,World.size_alloc,World.size_alloc] at this
 have XB:Hid (∀ A C R D,Below w.heap.size w ((((w.alloc A).alloc C).setRow (w.heap.size+1) R).alloc D)):=fun A C R D=>(below_setRow box2 (Nat.le_succ _) R).alloc (by simp;omega) _
 have X2:Hid (∀ A (C:Array Value) R D,((((w.alloc A).alloc (.cells C 32)).setRow (w.heap.size+1) R).alloc D).heap[w.heap.size+1]?=some (.cells R 32)):=fun A C R D=>by
  have h1:=z0g (w.alloc A) (.cells C 32)
  rw[World.size_alloc] at h1
  exact z0f (setRow_heap _ _ _ R _ _ h1) ((Below.refl _ _).alloc (Nat.le_refl _) _)
 have X3:Hid (∀ A C R D,((((w.alloc A).alloc C).setRow (w.heap.size+1) R).alloc D).heap[w.heap.size]?=some A):=fun A C R D=>by
  have h1:((w.alloc A).alloc C).heap[w.heap.size]?=some A:=z0m ((Below.refl _ _).alloc (Nat.le_refl _) _)
  have h2:(((w.alloc A).alloc C).setRow (w.heap.size+1) R).heap[w.heap.size]?=some A:=by rw[setRow_other _ _ _ _ (by omega)];exact h1
  exact z0f h2 ((Below.refl _ _).alloc (Nat.le_refl _) _)
 have XC:Hid (∀ W:World,Below w.heap.size w W→0<((List.range (min n 16)).map fun i=>Value.int .u32 (l.getD i 0)).length→∃ ad,sa=some ad∧∀ j v,((List.range (min n 16)).map fun i=>Value.int .u32 (l.getD i 0))[j]?=some v→W.cell? (ad.add j)=some v):=fun W hW hp=>by
  rw[List.length_map,List.length_range] at hp
  obtain⟨h1,h2⟩:=HA.out (by omega)
  refine⟨_,h1,fun j v hv=>?_⟩
  have hj:j<min n 16:=by
   have:=(List.getElem?_eq_some_iff.1 hv).1
   simpa using this
  have hv2:v=.int .u32 (l.getD j 0):=by
   rw[List.getElem?_map,List.getElem?_range hj] at hv
   simpa using hv.symm
  rw[Addr.add_mid,hW.cell (p:=⟨b,off+j,none⟩) h2,hv2]
  exact HC.out j (by omega)
 have L1:Hid (((List.range (min n 16)).map fun i=>Value.int .u32 (l.getD i 0)).length=Nat.min n 16):=by show _=_;rw[List.length_map,List.length_range]
 have L2:Hid (0+((List.range (min n 16)).map fun i=>Value.int .u32 (l.getD i 0)).length≤(List.replicate 16 (Value.int .u32 0)).length):=by show _≤_;rw[List.length_map,List.length_range,List.length_replicate];omega
 have L3:Hid (∀ v∈(List.range (min n 16)).map fun i=>Value.int .u32 (l.getD i 0),v.oneCell'=true):=fun v hv=>by
  obtain⟨_,_,rfl⟩:=List.mem_map.1 hv
  rfl
 have SP:Hid _:=splice16 l n (min n 16) rfl
 generalize ((List.range (min n 16)).map fun i=>Value.int .u32 (l.getD i 0))=CS at *
 go_enter Tryz.func21,Tryz.ntmps21
 go_wp2_with (first | (refine wpList_builtU rfl (.tmp 8) rfl _ rfl ?_) | (refine wpList_store_row rfl 32 (.tmp 5) (.tmp 9) rfl _ (z0c _ _) rfl rfl _ (z0c (fun _=>0) false) (by have:=z0g (w.alloc (.cells (z0c (fun _=>0) false) 32)) (.cells (z0c (fun _=>0) false) 32);rw[World.size_alloc] at this;exact this) (by rw[z0b];exact z0o) (by rw[z0b,z0b]) (z0s _ _) ?_) | (refine wpList_copy_splice rfl (.tmp 11) (.tmp 12) 23 23 rfl 28 Tryz.underlying23 (by kernel_rfl) _ _ _ _ _ _ rfl rfl (w.heap.size+1+1) 0 (List.replicate 16 (.int .u32 0)) 28 (X1.out _ _ _ _) CS L1.out (fun hp=>⟨rfl,XC.out _ (XB.out _ _ _ _) hp⟩) L2.out L3.out (w.heap.size+1+1) _ (Below.refl _ _) (Nat.le_refl _) ?_;intro wc HW HBW;have HAw:=HW.out;rw[SP.out] at HAw;have HBw:=Eq.trans (HBW.block (w.heap.size+1) (by omega)) (X2.out _ _ _ _);have HZw:=Eq.trans (HBW.block w.heap.size (by omega)) (X3.out _ _ _ _);have HLw:Below w.heap.size w wc:=Below.trans (XB.out _ _ _ _) (HBW.mono (by omega));clear HW HBW) | (refine z9h rfl rfl rfl (by assumption) (by decide) ?_) | (refine z0h rfl rfl rfl rfl (by assumption) (by decide) (by decide) ?_;intro wn HBn HO HL;have HZn:=Eq.trans (HO w.heap.size (by omega)) (by assumption);have HAn:=Eq.trans (HO (w.heap.size+1+1) (by omega)) (by assumption);have HLn:=HL w.heap.size w (by omega) (by assumption);clear HO HL))
 rw[z5k (fun i _ _=>regsP_zero (wat l n) i)] at HBn
 have R0:Hid (RegSt w (wat l n) u 0 wn):=⟨HZn,HBn,HAn,HLn⟩
 clear HZn HBn HAn HLn
 go_loopw [7] (fun i wr=>∃ k:Nat,k≤8∧i=.int .i64 k∧Hid (RegSt w (wat l n) u k wr)) (fun i _=>8-(intOf i).toNat)
 case atStart=>exact⟨0,Nat.zero_le _,rfl,R0.out⟩
 case round=>
  clear R0 X1 X2 X3 XB XC L1 L2 L3 SP HC HA
  obtain⟨k,hk,rfl,hr⟩:=hrel
  have HBn:=hr.out.r
  have HZn:=hr.out.res
  have HAn:=hr.out.at'
  have HLn:=hr.out.below
  clear hr
  by_cases hlt:k<8
  ·have i1:(0:Int)≤8+(k:Int):=by omega
   have i2:8+(k:Int)<16:=by omega
   have i3:(0:Int)≤15-(k:Int):=by omega
   have i4:15-(k:Int)<16:=by omega
   have i5:(0:Int)≤(k:Int):=by omega
   have i6:(k:Int)<16:=by omega
   have i7:(k:Int)<32:=by omega
   have n1:(8+(k:Int)).toNat=8+k:=by omega
   have n2:(15-(k:Int)).toNat=15-k:=by omega
   go_wp2_with (first | (refine z9h rfl rfl rfl (by assumption) (by omega) ?_) | (refine z0h rfl rfl rfl rfl (by assumption) (by omega) (by omega) ?_;intro wn HBn HO HL;have HZn:=Eq.trans (HO w.heap.size (by omega)) (by assumption);have HAn:=Eq.trans (HO (w.heap.size+1+1) (by omega)) (by assumption);have HLn:=HL w.heap.size w (by omega) (by assumption);clear HO HL))
   have HF:Hid (RegSt w (wat l n) u (k+1) wn):=⟨HZn,by rw[HBn,z5k (fun i _ _=>regsP_next (wat l n) k hlt i)],HAn,HLn⟩
   exact⟨⟨k+1,hlt,by go_num,HF.out⟩,by simp[intOf];omega⟩
  ·have hk8:k=8:=by omega
   subst hk8
   go_wp2_with (first | (refine wpList_load_row rfl 32 (.tmp 5) rfl _ rfl _ _ _ _ HBn HS.out rfl (by rw[z0b];exact z0o) ?_) | (refine wpList_store_row rfl 32 (.tmp 4) (.tmp 67) rfl _ (z0c _ _) rfl rfl _ _ HZn (by rw[z0b];exact z0o) (by rw[z0b];rfl) (z0s _ _) ?_))
   exact bodyPost_ret (results_cell_row rfl _ _ _ _ _ _ _ rfl (setRow_heap _ _ _ _ _ _ HZn) HS.out rfl (by rw[z0b];exact z0o)) rfl ⟨rfl,below_setRow HLn (Nat.le_refl _) _⟩
end
end Go.Proofs.YtbmnmbkgdalkcaaGreatDoor
