/-
  Contracts of functions that the statement reaches, and what they are made of, callees first.
-/
import Derived.Deep.AppendLies
import Derived.Test.YtilcoimelnpkeaaGreatDoorPzf
set_option maxRecDepth 100000
set_option maxHeartbeats 8000000
namespace Go.Proofs.YtilcoimelnpkeaaGreatDoor
open Go.RowKit
theorem forms_split:∀ q∈z3w,(z6q.lookup q.1).isSome=true∨q.1∈others:=by decide +kernel
theorem others_is {nm:List UInt8} (h:nm∈others):nm=[108,117,105]∨nm=[97,117,105,112,99]∨nm=[106,97,108]∨nm=[106,97,108,114]∨nm=[98,101,113]∨nm=[98,110,101]∨nm=[98,108,116]∨nm=[98,103,101]∨nm=[98,108,116,117]∨nm=[98,103,101,117]∨nm=[108,98]∨nm=[108,104]∨nm=[108,119]∨nm=[108,98,117]∨nm=[108,104,117]∨nm=[115,98]∨nm=[115,104]∨nm=[115,119]∨nm=[99,115,114,114,119]∨nm=[99,115,114,114,115]∨nm=[99,115,114,114,99]∨nm=[109,114,101,116]∨nm=[119,102,105]∨nm=[102,101,110,99,101]∨nm=[101,99,97,108,108]∨nm=[101,98,114,101,97,107]:=by
 simpa only [others,List.mem_cons,List.not_mem_nil,or_false] using h
def newC (m la:Value):CS:=⟨m,fun _=>0,false,0,false,0,la,0,0,0,0,.slice none 0 0,0,0,false⟩
structure Okay (A B:Int) (s:CS):Prop where
 f:∀ i,U32 (s.f i)
 t0:0≤s.t
 t1:s.t≤A
 c0:0≤s.cmp
 c1:s.cmp≤B
 tk:U32 s.task
 kd:U32 s.kind
theorem Okay.mono {A B A' B':Int} {s:CS} (h:Okay A B s) (ha:A≤A') (hb:B≤B'):Okay A' B' s:=⟨h.f,h.t0,by have:=h.t1;omega,h.c0,by have:=h.c1;omega,h.tk,h.kd⟩
theorem z4m {f:Nat→Int} (hf:∀ i,U32 (f i)) (j:Nat) {x:Int} (hx:U32 x) (i:Nat):U32 (set1 f j x i):=by
 unfold set1
 split
 ·exact hx
 ·exact hf i
theorem ftrapS_u (s:Int) (u:Bool):U32 (z9m s u):=by
 unfold z9m
 repeat' split
 all_goals exact z1t _ _ _
theorem ftrap_u {f:Nat→Int} (hf:∀ i,U32 (f i)) (u:Bool) {c v:Int} (hc:U32 c) (hv:U32 v) (i:Nat):U32 (z5i f u c v i):=by
 unfold z5i
 repeat' split
 all_goals first | exact hf _ | exact ftrapS_u _ _ | exact hc | exact hv
theorem fret_u {f:Nat→Int} (hf:∀ i,U32 (f i)) (i:Nat):U32 (retF f i):=by
 unfold retF retS
 repeat' split
 all_goals first | exact hf _ | exact z1t _ _ _
theorem fkeep_u {n x:Int} (hx:U32 x):U32 (z7t n x):=by
 unfold z7t statV
 repeat' split
 all_goals first | exact z1t _ _ _ | exact hx | (obtain⟨h0,h1⟩:=hx;exact⟨by omega,by omega⟩)
theorem fwrite_u {f:Nat→Int} (hf:∀ i,U32 (f i)) (n:Int) {x:Int} (hx:U32 x) (i:Nat):U32 (z2o f n x i):=by
 unfold z2o
 cases z2f n with
 | none=>exact hf i
 | some j=>exact z4m hf j (fkeep_u hx) i
theorem fread_u {f:Nat→Int} (hf:∀ i,U32 (f i)) (n now:Int) (due:Bool):U32 (z4e f n now due):=by
 unfold z4e
 repeat' split
 all_goals first | exact hf _ | exact⟨by decide,by decide⟩ | exact⟨by omega,by omega⟩
theorem z6r (x:Int):U32 (x%4294967296):=⟨by omega,by omega⟩
theorem fload_u (l:List Int) (p n:Int) (sg:Bool):U32 (z1l l p n sg):=by
 unfold z1l
 split
 ·exact z8m _ _
 ·exact z4n _ _ _
theorem ok_fault {A B:Int} {s:CS} (h:Okay A B s) {c v:Int} (hc:U32 c) (hv:U32 v):Okay (A+4) B (z1j s c v):=
 ⟨ftrap_u h.f s.u hc hv,by show 0≤s.t+4;have:=h.t0;omega,by show s.t+4≤A+4;have:=h.t1;omega,h.c0,h.c1,h.tk,h.kd⟩
theorem z9p {A B:Int} {s:CS} (h:Okay A B s) {pc k:Int} (hp:U32 pc) (hk:0≤k):Okay (A+k) B (z2k s pc k):=
 ⟨z4m h.f 32 hp,by show 0≤s.t+k;have:=h.t0;omega,by show s.t+k≤A+k;have:=h.t1;omega,h.c0,h.c1,h.tk,h.kd⟩
theorem ok_lat {A B:Int} {s:CS} (h:Okay A B s) (p:Int):Okay A B { s with lat:=p }:=⟨h.f,h.t0,h.t1,h.c0,h.c1,h.tk,h.kd⟩
theorem ok_f {A B:Int} {s:CS} (h:Okay A B s) {f:Nat→Int} (hf:∀ i,U32 (f i)) (u:Bool):Okay A B { s with f:=f,u:=u }:=⟨hf,h.t0,h.t1,h.c0,h.c1,h.tk,h.kd⟩
theorem ok_setX {A B:Int} {s:CS} (h:Okay A B s) (d:Int) {x:Int} (hx:U32 x):Okay A B (setX s d x):=⟨z4m h.f _ hx,h.t0,h.t1,h.c0,h.c1,h.tk,h.kd⟩
structure Still (s s':CS):Prop where
 m:s'.m=s.m
 la:s'.la=s.la
 ev:s'.ev=s.ev
 came:s'.came=s.came
structure Way (A:Int) (s:CS) (l:List Int) (es:List Ev) (r:St):Prop where
 ok:Okay (A+8589934692) (A+17179869184) r.1
 still:Still s r.1
 len:r.2.1.length=l.length
 mem:∀ i,U32 (z0p r.2.1 i)
 evs:r.2.2=es∨∃ e,r.2.2=es++[e]
theorem z6x {A:Int} {s s':CS} {l:List Int} {es:List Ev} (ok:Okay (A+8589934692) (A+17179869184) s') (st:Still s s') (hm:∀ i,U32 (z0p l i)):Way A s l es (s',l,es):=⟨ok,st,rfl,hm,Or.inl rfl⟩
theorem z4y {A:Int} {s:CS} {l:List Int} {es:List Ev} (h:Okay A (A+8589934592) s) (hm:∀ i,U32 (z0p l i)) {c v:Int} (hc:U32 c) (hv:U32 v):Way A s l es (z1j s c v,l,es):=
 z6x ((ok_fault h hc hv).mono (by omega) (by omega)) ⟨rfl,rfl,rfl,rfl⟩ hm
theorem way_next {A:Int} {s:CS} {l:List Int} {es:List Ev} (h:Okay A (A+8589934592) s) (hm:∀ i,U32 (z0p l i)) {pc k:Int} (hp:U32 pc) (hk:0≤k) (hk':k≤20):Way A s l es (z2k s pc k,l,es):=
 z6x ((z9p h hp hk).mono (by omega) (by omega)) ⟨rfl,rfl,rfl,rfl⟩ hm
theorem z6j {A:Int} {s:CS} {l:List Int} {es:List Ev} (h:Okay A (A+8589934592) s) (hm:∀ i,U32 (z0p l i)) (b:Bool) (m:Int):Way A s l es (z4a s b m,l,es):=
 way_next h hm (z6r _) (by decide) (by decide)
theorem way_setX {A:Int} {s:CS} {l:List Int} {es:List Ev} (h:Okay A (A+8589934592) s) (hm:∀ i,U32 (z0p l i)) (d:Int) {x pc k:Int} (hx:U32 x) (hp:U32 pc) (hk:0≤k) (hk':k≤20):Way A s l es (z2k (setX s d x) pc k,l,es):=
 z6x ((z9p (ok_setX h d hx) hp hk).mono (by omega) (by omega)) ⟨rfl,rfl,rfl,rfl⟩ hm
theorem way_load {A:Int} {s:CS} {l:List Int} {es:List Ev} (h:Okay A (A+8589934592) s) (hm:∀ i,U32 (z0p l i)) (rd:Nat) {p:Int} (hp:U32 p) (n:Int) (sg:Bool):Way A s l es (z3m s l rd p n sg,l,es):=by
 unfold z3m
 split
 ·exact z6x ((ok_fault (ok_lat h p) ⟨by decide,by decide⟩ hp).mono (by omega) (by omega)) ⟨rfl,rfl,rfl,rfl⟩ hm
 split
 ·exact z6x ((ok_fault (ok_lat h p) ⟨by decide,by decide⟩ hp).mono (by omega) (by omega)) ⟨rfl,rfl,rfl,rfl⟩ hm
 ·exact z6x ((z9p (ok_f (ok_lat h p) (z4m h.f rd (fload_u _ _ _ _)) s.u) (z6r _) (by decide)).mono (by omega) (by omega)) ⟨rfl,rfl,rfl,rfl⟩ hm
theorem way_on {A:Int} {s s':CS} {l:List Int} {es:List Ev} (h:Okay A (A+8589934592+8589934592) s') (st:Still s s') (hm:∀ i,U32 (z0p l i)):Way A s l es (onS s',l,es):=
 z6x ((z9p h (z6r _) (by decide)).mono (by omega) (by omega)) ⟨st.m,st.la,st.ev,st.came⟩ hm
theorem way_store {A:Int} {s:CS} {l:List Int} {es:List Ev} (h:Okay A (A+8589934592) s) (hm:∀ i,U32 (z0p l i)) {p n x:Int} (hp:U32 p) (hx:U32 x):Way A s l es (z4z s l es p n x):=by
 have h0:Okay A (A+8589934592+8589934592) s:=h.mono (by omega) (by omega)
 have hf6:∀ c,U32 c→Way A s l es (z1j { s with lat:=p } c p,l,es):=fun c hc=>z6x ((ok_fault (ok_lat h p) hc hp).mono (by omega) (by omega)) ⟨rfl,rfl,rfl,rfl⟩ hm
 unfold z4z
 split
 ·exact hf6 6 ⟨by decide,by decide⟩
 split
 ·refine way_on ⟨h.f,h.t0,h.t1,?_,?_,h.tk,h.kd⟩ ⟨rfl,rfl,rfl,rfl⟩ hm
  ·show 0≤s.t+2+x;have:=h.t0;have:=hx.1;omega
  ·show s.t+2+x≤_;have:=h.t1;have:=hx.2;omega
 split
 ·exact way_on ⟨h0.f,h0.t0,h0.t1,h0.c0,h0.c1,hx,h0.kd⟩ ⟨rfl,rfl,rfl,rfl⟩ hm
 split
 ·exact way_on ⟨h0.f,h0.t0,h0.t1,h0.c0,h0.c1,h0.tk,hx⟩ ⟨rfl,rfl,rfl,rfl⟩ hm
 split
 ·have:=way_on (s':={ s with lat:=1073741836 }) (es:=es) (ok_lat h0 _) (s:=s) ⟨rfl,rfl,rfl,rfl⟩ hm
  exact⟨this.ok,this.still,rfl,hm,Or.inr ⟨_,rfl⟩⟩
 split
 ·exact way_on ⟨h0.f,h0.t0,h0.t1,h0.c0,h0.c1,h0.tk,h0.kd⟩ ⟨rfl,rfl,rfl,rfl⟩ hm
 split
 ·exact hf6 7 ⟨by decide,by decide⟩
 split
 ·exact hf6 7 ⟨by decide,by decide⟩
 ·have:=way_on (s':={ s with lat:=p }) (es:=es) (ok_lat h0 _) (s:=s) ⟨rfl,rfl,rfl,rfl⟩ hm
  refine⟨this.ok,this.still,by simp,fun i=>?_,Or.inl rfl⟩
  show U32 (z0p (l.set (p/4).toNat _) i)
  by_cases hi:(p/4).toNat=i
  ·subst hi
   by_cases hl:(p/4).toNat<l.length
   ·rw[z2u hl];exact z1t _ _ _
   ·rw[List.set_eq_of_length_le (by omega)];exact hm _
  ·rw[z2q hi];exact hm i
theorem way_csr {A:Int} {s:CS} {l:List Int} {es:List Ev} (h:Okay A (A+8589934592) s) (hm:∀ i,U32 (z0p l i)) (k rd:Nat) (r1 n:Int) {a wd:Int} (ha:U32 a) (hw:U32 wd):Way A s l es (csrS s k rd r1 n a wd,l,es):=by
 have ho:U32 (oldV s n):=fread_u h.f _ _ _
 have hx:U32 (csrX k (oldV s n) a):=by
  unfold csrX
  repeat' split
  all_goals first | exact ha | exact z1t _ _ _
 unfold csrS
 split
 ·exact z4y h hm ⟨by decide,by decide⟩ hw
 split
 ·split
  ·exact z4y h hm ⟨by decide,by decide⟩ hw
  ·exact z6x ((z9p (ok_f h (z4m (fwrite_u h.f n hx) rd ho) s.u) (z6r _) (by decide)).mono (by omega) (by omega)) ⟨rfl,rfl,rfl,rfl⟩ hm
 ·exact z6x ((z9p (ok_f h (z4m h.f rd ho) s.u) (z6r _) (by decide)).mono (by omega) (by omega)) ⟨rfl,rfl,rfl,rfl⟩ hm
theorem way_ret {A:Int} {s:CS} {l:List Int} {es:List Ev} (h:Okay A (A+8589934592) s) (hm:∀ i,U32 (z0p l i)):Way A s l es (retC s,l,es):=
 z6x ⟨fret_u h.f,by show 0≤s.t+4;have:=h.t0;omega,by show s.t+4≤_;have:=h.t1;omega,h.c0,by show s.cmp≤_;have:=h.c1;omega,h.tk,h.kd⟩ ⟨rfl,rfl,rfl,rfl⟩ hm
theorem way_wfi {A:Int} {s:CS} {l:List Int} {es:List Ev} (h:Okay A (A+8589934592) s) (hm:∀ i,U32 (z0p l i)):Way A s l es (wfiC s,l,es):=by
 unfold wfiC
 split
 ·refine z6x ⟨z4m h.f 32 (z6r _),?_,?_,h.c0,?_,h.tk,h.kd⟩ ⟨rfl,rfl,rfl,rfl⟩ hm
  ·show 0≤s.cmp+1;have:=h.c0;omega
  ·show s.cmp+1≤_;have:=h.c1;omega
  ·show s.cmp≤_;have:=h.c1;omega
 ·exact way_next h hm (z6r _) (by decide) (by decide)
theorem way_op {A:Int} {s:CS} {l:List Int} {es:List Ev} (h:Okay A (A+8589934592) s) (hm:∀ i,U32 (z0p l i)) (i:MIns):Way A s l es (opC s i,l,es):=by
 unfold opC
 split
 ·rename_i nm cost imm hl
  have hc:∀ q∈z6q,0≤q.2.2.1∧q.2.2.1≤20:=by decide +kernel
  have hq:∃ q∈z6q,q.2=(nm,cost,imm):=by
   have h1:∀ (t:List (List UInt8 × List UInt8 × Int × Bool)),t.lookup i.op=some (nm,cost,imm)→∃ q∈t,q.2=(nm,cost,imm):=by
    intro t
    induction t with
    | nil=>intro e;cases e
    | cons y r ih=>
     intro e
     obtain⟨k,v⟩:=y
     rw[List.lookup_cons] at e
     split at e
     ·exact⟨(k,v),.head _,by injection e⟩
     ·obtain⟨q,h2,h3⟩:=ih e
      exact⟨q,.tail _ h2,h3⟩
   exact h1 _ hl
  obtain⟨q,h1,h2⟩:=hq
  have h3:=hc q h1
  rw[h2] at h3
  have hb:U32 (if imm then i.m%4294967296 else s.f i.b.toNat):=by split;exact z6r _;exact h.f _
  exact z6x ((z9p (ok_f h (z4m h.f _ (opN_u32 nm (h.f _) hb)) s.u) (z6r _) h3.1).mono (by have:=h3.2;omega) (by omega)) ⟨rfl,rfl,rfl,rfl⟩ hm
 ·exact z6x (h.mono (by omega) (by omega)) ⟨rfl,rfl,rfl,rfl⟩ hm
theorem way_ins {A:Int} {s:CS} {l:List Int} {es:List Ev} (h:Okay A (A+8589934592) s) (hm:∀ i,U32 (z0p l i)) (i:MIns) {x:Int} (hx:U32 x):Way A s l es (insC s l es i x):=by
 have h4:=z6r (s.f 32+4)
 have hj:U32 ((s.f i.a.toNat+i.m%4294967296)%4294967296/2*2):=by
  have h1:=z6r (s.f i.a.toNat+i.m%4294967296)
  obtain⟨h1,h2⟩:=h1
  generalize (s.f i.a.toNat+i.m%4294967296)%4294967296=y at *
  exact⟨by omega,by omega⟩
 unfold insC
 by_cases n0:i.op=[108,117,105]
 ·rw[if_pos n0];exact way_setX h hm _ (z6r _) h4 (by decide) (by decide)
 rw[if_neg n0]
 by_cases n1:i.op=[97,117,105,112,99]
 ·rw[if_pos n1];exact way_setX h hm _ (z6r _) h4 (by decide) (by decide)
 rw[if_neg n1]
 by_cases n2:i.op=[106,97,108]
 ·rw[if_pos n2];exact way_setX h hm _ h4 (z6r _) (by decide) (by decide)
 rw[if_neg n2]
 by_cases n3:i.op=[106,97,108,114]
 ·rw[if_pos n3];exact way_setX h hm _ h4 hj (by decide) (by decide)
 rw[if_neg n3]
 by_cases n4:i.op=[98,101,113]
 ·rw[if_pos n4];exact z6j h hm _ _
 rw[if_neg n4]
 by_cases n5:i.op=[98,110,101]
 ·rw[if_pos n5];exact z6j h hm _ _
 rw[if_neg n5]
 by_cases n6:i.op=[98,108,116]
 ·rw[if_pos n6];exact z6j h hm _ _
 rw[if_neg n6]
 by_cases n7:i.op=[98,103,101]
 ·rw[if_pos n7];exact z6j h hm _ _
 rw[if_neg n7]
 by_cases n8:i.op=[98,108,116,117]
 ·rw[if_pos n8];exact z6j h hm _ _
 rw[if_neg n8]
 by_cases n9:i.op=[98,103,101,117]
 ·rw[if_pos n9];exact z6j h hm _ _
 rw[if_neg n9]
 by_cases n10:i.op=[108,98]
 ·rw[if_pos n10];exact way_load h hm _ (z6r _) _ _
 rw[if_neg n10]
 by_cases n11:i.op=[108,104]
 ·rw[if_pos n11];exact way_load h hm _ (z6r _) _ _
 rw[if_neg n11]
 by_cases n12:i.op=[108,119]
 ·rw[if_pos n12];exact way_load h hm _ (z6r _) _ _
 rw[if_neg n12]
 by_cases n13:i.op=[108,98,117]
 ·rw[if_pos n13];exact way_load h hm _ (z6r _) _ _
 rw[if_neg n13]
 by_cases n14:i.op=[108,104,117]
 ·rw[if_pos n14];exact way_load h hm _ (z6r _) _ _
 rw[if_neg n14]
 by_cases n15:i.op=[115,98]
 ·rw[if_pos n15];exact way_store h hm (z6r _) (h.f _)
 rw[if_neg n15]
 by_cases n16:i.op=[115,104]
 ·rw[if_pos n16];exact way_store h hm (z6r _) (h.f _)
 rw[if_neg n16]
 by_cases n17:i.op=[115,119]
 ·rw[if_pos n17];exact way_store h hm (z6r _) (h.f _)
 rw[if_neg n17]
 by_cases n18:i.op=[99,115,114,114,119]
 ·rw[if_pos n18];exact way_csr h hm _ _ _ _ (h.f _) hx
 rw[if_neg n18]
 by_cases n19:i.op=[99,115,114,114,115]
 ·rw[if_pos n19];exact way_csr h hm _ _ _ _ (h.f _) hx
 rw[if_neg n19]
 by_cases n20:i.op=[99,115,114,114,99]
 ·rw[if_pos n20];exact way_csr h hm _ _ _ _ (h.f _) hx
 rw[if_neg n20]
 by_cases n21:i.op=[109,114,101,116]
 ·rw[if_pos n21];exact way_ret h hm
 rw[if_neg n21]
 by_cases n22:i.op=[119,102,105]
 ·rw[if_pos n22];exact way_wfi h hm
 rw[if_neg n22]
 by_cases n23:i.op=[102,101,110,99,101]
 ·rw[if_pos n23];exact way_next h hm h4 (by decide) (by decide)
 rw[if_neg n23]
 by_cases n24:i.op=[101,99,97,108,108]
 ·rw[if_pos n24];exact z4y h hm (by split <;> exact⟨by decide,by decide⟩) ⟨by decide,by decide⟩
 rw[if_neg n24]
 by_cases n25:i.op=[101,98,114,101,97,107]
 ·rw[if_pos n25];exact z4y h hm ⟨by decide,by decide⟩ (h.f 32)
 rw[if_neg n25]
 exact way_op h hm i
theorem way_do {A:Int} {s:CS} {l:List Int} {es:List Ev} (h:Okay A (A+8589934592) s) (hm:∀ i,U32 (z0p l i)):Way A s l es (doC s l es):=by
 unfold doC
 split
 ·exact z4y h hm ⟨by decide,by decide⟩ (h.f 32)
 split
 ·exact z4y h hm ⟨by decide,by decide⟩ (h.f 32)
 split
 ·exact z4y h hm ⟨by decide,by decide⟩ (h.f 32)
 split
 ·exact z4y h hm ⟨by decide,by decide⟩ (z2l _ _ _)
 split
 ·exact z4y h hm ⟨by decide,by decide⟩ (z2l _ _ _)
 ·exact way_ins h hm _ (z2l _ _ _)
structure Stepped (A Mo:Int) (s:CS) (l:List Int) (es:List Ev) (r:St):Prop where
 ok:Okay (A+8589934692+Mo) (A+8589934692+Mo+8589934592) r.1
 m:r.1.m=s.m
 la:r.1.la=s.la
 ev:r.1.ev=s.ev
 came:s.came≤r.1.came∧r.1.came≤s.came+1
 len:r.2.1.length=l.length
 mem:∀ i,U32 (z0p r.2.1 i)
 evs:r.2.2=es∨∃ e,r.2.2=es++[e]
theorem stepped {A Mo:Int} {s:CS} {l:List Int} {es:List Ev} (h:Okay A (A+8589934592) s) (hm:∀ i,U32 (z0p l i)) (late:List Int) (hmo:z4f s late≤Mo):Stepped A Mo s l es (z3i late s l es):=by
 have hp:0≤z4f s late:=by
  unfold z4f
  split
  ·omega
  ·decide
 unfold z3i
 split
 ·exact⟨h.mono (by omega) (by omega),rfl,rfl,rfl,⟨Int.le_refl _,by show s.came≤s.came+1;omega⟩,rfl,hm,Or.inl rfl⟩
 split
 ·refine⟨⟨ftrap_u h.f s.u ⟨by decide,by decide⟩ ⟨by decide,by decide⟩,?_,?_,h.c0,?_,h.tk,h.kd⟩,rfl,rfl,rfl,⟨?_,?_⟩,rfl,hm,Or.inl rfl⟩
  ·show 0≤s.t+4+z4f s late;have:=h.t0;omega
  ·show s.t+4+z4f s late≤_;have:=h.t1;omega
  ·show s.cmp≤_;have:=h.c1;omega
  ·show s.came≤s.came+1;omega
  ·show s.came+1≤s.came+1;omega
 ·have h1:Okay A (A+8589934592) (z2t s):=⟨h.f,h.t0,h.t1,h.c0,h.c1,h.tk,h.kd⟩
  have hw:=way_do (es:=es) h1 hm
  have hk:=hw.ok.mono (A':=A+8589934692+Mo) (B':=A+8589934692+Mo+8589934592) (by omega) (by omega)
  refine⟨⟨z4m hk.f 0 ⟨by decide,by decide⟩,hk.t0,hk.t1,hk.c0,hk.c1,hk.tk,hk.kd⟩,hw.still.m,hw.still.la,hw.still.ev,?_,hw.len,hw.mem,hw.evs⟩
  have e:=hw.still.came
  show s.came≤(doC (z2t s) l es).1.came∧(doC (z2t s) l es).1.came≤s.came+1
  rw[e]
  show s.came≤s.came∧s.came≤s.came+1
  omega
end Go.Proofs.YtilcoimelnpkeaaGreatDoor
