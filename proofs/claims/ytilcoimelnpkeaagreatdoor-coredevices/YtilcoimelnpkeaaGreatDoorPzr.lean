/-
  Contracts of functions that the statement reaches, and what they are made of, callees first.
-/
import Derived.Test.YtilcoimelnpkeaaGreatDoorPza
import Derived.Test.YtilcoimelnpkeaaGreatDoorPzb
import Derived.Test.YtilcoimelnpkeaaGreatDoorPze
import Derived.Test.YtilcoimelnpkeaaGreatDoorPzf
import Derived.Test.YtilcoimelnpkeaaGreatDoorPzi
import Derived.Test.YtilcoimelnpkeaaGreatDoorPzj
import Derived.Test.YtilcoimelnpkeaaGreatDoorPzk
set_option maxRecDepth 100000
set_option maxHeartbeats 8000000
namespace Go.Proofs.YtilcoimelnpkeaaGreatDoor
open Go.RowKit
section
variable {w:World} {c ma mb mc gl B:Nat} {s:CS} {l:List Int} {es:List Ev} {late:List Int}
structure FetchNo (k v:Int) (w:World) (e:Ending) (w':World):Prop where
 is:∃ g,e=.returned (.tuple #[.agg #[.string ⟨#[]⟩,.int .i64 0,.int .i64 0,.int .i64 0,.int .i32 0],.int .u32 0,.pointer (some ⟨g,0,none⟩)])∧w.heap.size≤g∧z9f w' g k v
 below:Below w.heap.size w w'
structure FetchOk (nm:List UInt8) (d a b:Nat) (m x:Int) (w:World) (e:Ending) (w':World):Prop where
 is:e=.returned (.tuple #[.agg #[.string ⟨nm.toArray⟩,.int .i64 d,.int .i64 a,.int .i64 b,.int .i32 m],.int .u32 x,.pointer none])
 below:Below w.heap.size w w'
theorem loadN_u (l:List Int) (p n:Int):U32 (z2r l.length l p n false):=by
 unfold z2r
 split
 ·exact z2l l p n
 ·exact⟨by decide,by decide⟩
theorem neqFlt (a:Option Addr) (w:World):(binOp .neq 93 (.pointer a) (.pointer none)).run Tryz.prog w=.ok (.bool a.isSome) w:=by cases a <;> kernel_rfl
theorem opN_in {x:Int} {i:MIns} (h:getV x=some i):i.op∈z1w:=by
 have h1:=z8s h
 have:∀ q∈z3w,q.1∈z1w:=by decide +kernel
 exact this _ h1
theorem nGetS {x:Int} (hx:U32 x) {nm:List UInt8} {d a b:Nat} {m:Int} (h:getV x=some ⟨nm,d,a,b,m⟩) (w:World):Calls Tryz.prog 54 #[.int .u32 x] w fun e w'=>e=.returned (.tuple #[.agg #[.string ⟨nm.toArray⟩,.int .i64 d,.int .i64 a,.int .i64 b,.int .i32 m],.int .i64 0])∧Below w.heap.size w w':=by
 obtain⟨s,d',a',b',m',ok,ht,hc⟩:=cGet x hx
 rcases ht with ⟨rfl,h1⟩ | ⟨_,_,_,_,_,_,h1⟩
 ·rw[h] at h1
  simp only[Option.some.injEq,MIns.mk.injEq] at h1
  obtain⟨rfl,rfl,rfl,rfl,rfl⟩:=h1
  have e:(⟨s.toList.toArray⟩:ByteArray)=s:=by
   apply ByteArray.ext
   rw[ByteArray.toList_eq]
  rw[e]
  exact hc w
 ·rw[h] at h1;cases h1
theorem nGetN {x:Int} (hx:U32 x) (h:getV x=none) (w:World):Calls Tryz.prog 54 #[.int .u32 x] w fun e w'=>e=.returned (.tuple #[.agg #[.string ⟨#[]⟩,.int .i64 0,.int .i64 0,.int .i64 0,.int .i32 0],.int .i64 3])∧Below w.heap.size w w':=by
 obtain⟨s,d',a',b',m',ok,ht,hc⟩:=cGet x hx
 rcases ht with ⟨_,h1⟩ | ⟨rfl,rfl,rfl,rfl,rfl,rfl,_⟩
 ·rw[h] at h1;cases h1
 ·exact hc w
theorem lfetch_take (h:z0v w c ma mb mc gl B s l es late) (hf:∀ i,U32 (s.f i)) (k:Int) (hk:z5j s l (s.f 32) 4 2=some k) :
  Calls Tryz.prog 42 #[.pointer (some ⟨c,0,none⟩)] w fun e w'=>FetchNo k (s.f 32) w e w':=by
 have H1:Hid (z0v (w.alloc (.cells #[.string ⟨#[]⟩,.int .i64 0,.int .i64 0,.int .i64 0,.int .i32 0] 24)) c ma mb mc gl B s l es late):=h.below ((Below.refl _ _).alloc (Nat.le_refl _) _)
 have CT:Hid _:=ltake H1.out hf (s.f 32) 4 false 2 (hf 32) (Or.inr (Or.inr rfl)) (Or.inr (Or.inr rfl))
 have R1:Hid ((w.alloc (.cells #[.string ⟨#[]⟩,.int .i64 0,.int .i64 0,.int .i64 0,.int .i32 0] 24)).heap[w.heap.size]?=some (.cells #[.string ⟨#[]⟩,.int .i64 0,.int .i64 0,.int .i64 0,.int .i32 0] 24)):=z0g w _
 have B1:Hid (Below w.heap.size w (w.alloc (.cells #[.string ⟨#[]⟩,.int .i64 0,.int .i64 0,.int .i64 0,.int .i32 0] 24))):=(Below.refl _ _).alloc (Nat.le_refl _) _
 have hc:=h.core.lt
 have hne:¬c=w.heap.size:=by omega
 have c33:=h.core.cell 33 (by decide)
 have e33:z1a s 33=.int .u32 (s.f 32):=rfl
 rw[e33] at c33
 have hsz:(w.alloc (.cells #[.string ⟨#[]⟩,.int .i64 0,.int .i64 0,.int .i64 0,.int .i32 0] 24)).heap.size=w.heap.size+1:=World.size_alloc _ _
 rw[hk] at CT
 clear h e33
 go_enter Tryz.func42,Tryz.ntmps42
 go_wp2_with fail
 refine Calls.mono CT.out ?_
 intro e w1 q
 obtain⟨g,rfl,g1,g2⟩:=q.no k rfl
 have HBW:Hid (Below w.heap.size w w1):=z0e B1.out q.below
 have R2:=z0f R1.out q.below
 have hg:w.heap.size+1≤g:=by rw[← hsz];exact g1
 have GF:Hid _:=g2
 clear q g1 g2 CT R1 B1 H1 c33
 obtain⟨rc,_,rl⟩:=z0a R2
 have r0:=rc 0 (.string ⟨#[]⟩) rfl
 have r1:=rc 1 (.int .i64 0) rfl
 have r2:=rc 2 (.int .i64 0) rfl
 have r3:=rc 3 (.int .i64 0) rfl
 have r4:=rc 4 (.int .i32 0) rfl
 clear rc R2
 go_wp2_with fail
 obtain⟨Y,hY,y0,y1,y2,y3,y4,sY,zY,bY⟩:=z6z (v0:=.string ⟨#[]⟩) (v1:=.int .i64 0) (v2:=.int .i64 0) (v3:=.int .i64 0) (v4:=.int .i32 0) r0 r1 r2 r3 r4 HBW.out
 rw[← hY]
 have oY:∀ k,k≠w.heap.size→Y.heap[k]?=(w1).heap[k]?:=fun k hk=>by rw[hY,Below.heap_setCell _ _ _ _ hk,Below.heap_setCell _ _ _ _ hk,Below.heap_setCell _ _ _ _ hk,Below.heap_setCell _ _ _ _ hk,Below.heap_setCell _ _ _ _ hk]
 clear hY
 refine bodyPost_ret (v:=.tuple #[.agg #[.string ⟨#[]⟩,.int .i64 0,.int .i64 0,.int .i64 0,.int .i32 0],.int .u32 0,.pointer (some ⟨g,0,none⟩)]) (by simp[results,Tryz.results42,go_sem,y0,y1,y2,y3,y4]) rfl ?_
 exact⟨⟨g,rfl,Nat.le_of_succ_le hg,⟨(oY g (by omega)).trans GF.out.is⟩⟩,bY⟩
theorem lfetch_none (h:z0v w c ma mb mc gl B s l es late) (hf:∀ i,U32 (s.f i)) (x:Int) (hk:z5j s l (s.f 32) 4 2=none) (hx:z2r l.length l (s.f 32) 4 false=x) (hg:getV x=none) :
  Calls Tryz.prog 42 #[.pointer (some ⟨c,0,none⟩)] w fun e w'=>FetchNo 2 x w e w':=by
 have H1:Hid (z0v (w.alloc (.cells #[.string ⟨#[]⟩,.int .i64 0,.int .i64 0,.int .i64 0,.int .i32 0] 24)) c ma mb mc gl B s l es late):=h.below ((Below.refl _ _).alloc (Nat.le_refl _) _)
 have CT:Hid _:=ltake H1.out hf (s.f 32) 4 false 2 (hf 32) (Or.inr (Or.inr rfl)) (Or.inr (Or.inr rfl))
 have R1:Hid ((w.alloc (.cells #[.string ⟨#[]⟩,.int .i64 0,.int .i64 0,.int .i64 0,.int .i32 0] 24)).heap[w.heap.size]?=some (.cells #[.string ⟨#[]⟩,.int .i64 0,.int .i64 0,.int .i64 0,.int .i32 0] 24)):=z0g w _
 have B1:Hid (Below w.heap.size w (w.alloc (.cells #[.string ⟨#[]⟩,.int .i64 0,.int .i64 0,.int .i64 0,.int .i32 0] 24))):=(Below.refl _ _).alloc (Nat.le_refl _) _
 have hc:=h.core.lt
 have hne:¬c=w.heap.size:=by omega
 have c33:=h.core.cell 33 (by decide)
 have e33:z1a s 33=.int .u32 (s.f 32):=rfl
 rw[e33] at c33
 have hsz:(w.alloc (.cells #[.string ⟨#[]⟩,.int .i64 0,.int .i64 0,.int .i64 0,.int .i32 0] 24)).heap.size=w.heap.size+1:=World.size_alloc _ _
 have hx0:z2r l.length l (s.f 32) 4 false=x:=hx
 rw[hk,hx0] at CT
 have HUX:Hid (U32 x):=by rw[← hx];exact loadN_u l (s.f 32) 4
 clear h e33
 go_enter Tryz.func42,Tryz.ntmps42
 go_wp2_with fail
 refine Calls.mono CT.out ?_
 intro e w1 q
 obtain rfl:=q.ok rfl
 have HBW1:Hid (Below w.heap.size w w1):=z0e B1.out q.below
 have R2:=z0f R1.out q.below
 have H2:Hid (z0v w1 c ma mb mc gl B s l es late):=H1.out.below q.below
 clear q CT R1 B1 H1 c33
 have CG:Hid _:=nGetN HUX.out hg
 go_wp2_with fail
 refine (CG.out _).mono ?_
 rintro e w2 ⟨rfl,b2⟩
 have HBW2:Hid (Below w.heap.size w w2):=z0e HBW1.out b2
 have R2:=z0f R2 b2
 clear b2 CG HBW1
 obtain⟨rc,rz,rl⟩:=z0a R2
 have r0:=rc 0 (.string ⟨#[]⟩) rfl
 have r1:=rc 1 (.int .i64 0) rfl
 have r2:=rc 2 (.int .i64 0) rfl
 have r3:=rc 3 (.int .i64 0) rfl
 have r4:=rc 4 (.int .i32 0) rfl
 have z0:=rz 0
 have z1:=rz 1
 have z2:=rz 2
 have z3:=rz 3
 have z4:=rz 4
 have ne1:¬w.heap.size=w2.heap.size:=by omega
 have ne2:¬w.heap.size=w2.heap.size+1:=by omega
 clear rc rz R2
 go_wp2_with fail
 obtain⟨Y,hY,y0,y1,y2,y3,y4,sY,zY,bY⟩:=z6z (v0:=.string ⟨#[]⟩) (v1:=.int .i64 0) (v2:=.int .i64 0) (v3:=.int .i64 0) (v4:=.int .i32 0) r0 r1 r2 r3 r4 HBW2.out
 rw[← hY]
 clear hY
 have hB2:Below Y.heap.size Y ((Y.alloc (.cells #[.string ⟨#[]⟩,.int .i64 0,.int .i64 0,.int .i64 0,.int .i32 0] 24)).alloc (.cells #[.int .u32 2,.int .u32 x] 77)):=box2
 have A2:((Y.alloc (.cells #[.string ⟨#[]⟩,.int .i64 0,.int .i64 0,.int .i64 0,.int .i32 0] 24)).alloc (.cells #[.int .u32 2,.int .u32 x] 77)).heap[w2.heap.size+1]?=some (.cells #[.int .u32 2,.int .u32 x] 77):=by
  have:=z0g (Y.alloc (.cells #[.string ⟨#[]⟩,.int .i64 0,.int .i64 0,.int .i64 0,.int .i32 0] 24)) (.cells #[.int .u32 2,.int .u32 x] 77)
  rwa [World.size_alloc,zY] at this
 have y0:=(hB2.cell (p:=⟨w.heap.size,0,none⟩) sY).trans y0
 have y1:=(hB2.cell (p:=⟨w.heap.size,1,none⟩) sY).trans y1
 have y2:=(hB2.cell (p:=⟨w.heap.size,2,none⟩) sY).trans y2
 have y3:=(hB2.cell (p:=⟨w.heap.size,3,none⟩) sY).trans y3
 have y4:=(hB2.cell (p:=⟨w.heap.size,4,none⟩) sY).trans y4
 have bZ:Below w.heap.size w ((Y.alloc (.cells #[.string ⟨#[]⟩,.int .i64 0,.int .i64 0,.int .i64 0,.int .i32 0] 24)).alloc (.cells #[.int .u32 2,.int .u32 x] 77)):=(bY.alloc (Nat.le_of_lt sY) _).alloc (by rw[World.size_alloc];omega) _
 clear hB2 bY
 generalize (Y.alloc (.cells #[.string ⟨#[]⟩,.int .i64 0,.int .i64 0,.int .i64 0,.int .i32 0] 24)).alloc (.cells #[.int .u32 2,.int .u32 x] 77)=Z at *
 refine bodyPost_ret (v:=.tuple #[.agg #[.string ⟨#[]⟩,.int .i64 0,.int .i64 0,.int .i64 0,.int .i32 0],.int .u32 0,.pointer (some ⟨w2.heap.size+1,0,none⟩)]) (by simp[results,Tryz.results42,go_sem,y0,y1,y2,y3,y4]) rfl ?_
 exact⟨⟨_,rfl,(by omega),⟨A2⟩⟩,bZ⟩
theorem lfetch_ok (h:z0v w c ma mb mc gl B s l es late) (hf:∀ i,U32 (s.f i)) (x:Int) (hk:z5j s l (s.f 32) 4 2=none) (hx:z2r l.length l (s.f 32) 4 false=x) (nm:List UInt8) (d a b:Nat) (m:Int) (hg:getV x=some ⟨nm,d,a,b,m⟩) (hu:s.u=false) :
  Calls Tryz.prog 42 #[.pointer (some ⟨c,0,none⟩)] w fun e w'=>FetchOk nm d a b m x w e w':=by
 have H1:Hid (z0v (w.alloc (.cells #[.string ⟨#[]⟩,.int .i64 0,.int .i64 0,.int .i64 0,.int .i32 0] 24)) c ma mb mc gl B s l es late):=h.below ((Below.refl _ _).alloc (Nat.le_refl _) _)
 have CT:Hid _:=ltake H1.out hf (s.f 32) 4 false 2 (hf 32) (Or.inr (Or.inr rfl)) (Or.inr (Or.inr rfl))
 have R1:Hid ((w.alloc (.cells #[.string ⟨#[]⟩,.int .i64 0,.int .i64 0,.int .i64 0,.int .i32 0] 24)).heap[w.heap.size]?=some (.cells #[.string ⟨#[]⟩,.int .i64 0,.int .i64 0,.int .i64 0,.int .i32 0] 24)):=z0g w _
 have B1:Hid (Below w.heap.size w (w.alloc (.cells #[.string ⟨#[]⟩,.int .i64 0,.int .i64 0,.int .i64 0,.int .i32 0] 24))):=(Below.refl _ _).alloc (Nat.le_refl _) _
 have hc:=h.core.lt
 have hne:¬c=w.heap.size:=by omega
 have c33:=h.core.cell 33 (by decide)
 have e33:z1a s 33=.int .u32 (s.f 32):=rfl
 rw[e33] at c33
 have hsz:(w.alloc (.cells #[.string ⟨#[]⟩,.int .i64 0,.int .i64 0,.int .i64 0,.int .i32 0] 24)).heap.size=w.heap.size+1:=World.size_alloc _ _
 have hx0:z2r l.length l (s.f 32) 4 false=x:=hx
 rw[hk,hx0] at CT
 have HUX:Hid (U32 x):=by rw[← hx];exact loadN_u l (s.f 32) 4
 clear h e33
 go_enter Tryz.func42,Tryz.ntmps42
 go_wp2_with fail
 refine Calls.mono CT.out ?_
 intro e w1 q
 obtain rfl:=q.ok rfl
 have HBW1:Hid (Below w.heap.size w w1):=z0e B1.out q.below
 have R2:=z0f R1.out q.below
 have H2:Hid (z0v w1 c ma mb mc gl B s l es late):=H1.out.below q.below
 clear q CT R1 B1 H1 c33
 have CG:Hid _:=nGetS HUX.out hg
 have HNM:Hid (nm∈z1w):=opN_in hg
 go_wp2_with fail
 refine (CG.out _).mono ?_
 rintro e w2 ⟨rfl,b2⟩
 have HBW2:Hid (Below w.heap.size w w2):=z0e HBW1.out b2
 have R2:=z0f R2 b2
 have H3:Hid (z0v w2 c ma mb mc gl B s l es late):=H2.out.below b2
 have c34:=(H3.out.below ((Below.refl w2.heap.size w2).alloc (Nat.le_refl _) (.cells #[.string ⟨nm.toArray⟩,.int .i64 d,.int .i64 a,.int .i64 b,.int .i32 m] 24))).core.cell 34 (by decide)
 have e34:z1a s 34=.bool s.u:=rfl
 rw[e34,hu] at c34
 clear b2 CG HBW1 e34 H2
 obtain⟨rc,rz,rl⟩:=z0a R2
 have r0:=rc 0 (.string ⟨#[]⟩) rfl
 have r1:=rc 1 (.int .i64 0) rfl
 have r2:=rc 2 (.int .i64 0) rfl
 have r3:=rc 3 (.int .i64 0) rfl
 have r4:=rc 4 (.int .i32 0) rfl
 have z0:=rz 0
 have z1:=rz 1
 have z2:=rz 2
 have z3:=rz 3
 have z4:=rz 4
 have ne1:¬w.heap.size=w2.heap.size:=by omega
 have ne2:¬w.heap.size=w2.heap.size+1:=by omega
 clear rc rz R2
 go_wp2_with fail
 obtain⟨Y,hY,y0,y1,y2,y3,y4,sY,zY,bY⟩:=z6z (v0:=.string ⟨nm.toArray⟩) (v1:=.int .i64 d) (v2:=.int .i64 a) (v3:=.int .i64 b) (v4:=.int .i32 m) r0 r1 r2 r3 r4 HBW2.out
 rw[← hY]
 clear hY
 have hB2:Below Y.heap.size Y (Y.alloc (.cells #[.string ⟨nm.toArray⟩,.int .i64 d,.int .i64 a,.int .i64 b,.int .i32 m] 24)):=(Below.refl _ _).alloc (Nat.le_refl _) _
 have A2:(Y.alloc (.cells #[.string ⟨nm.toArray⟩,.int .i64 d,.int .i64 a,.int .i64 b,.int .i32 m] 24)).heap[w2.heap.size]?=some (.cells #[.string ⟨nm.toArray⟩,.int .i64 d,.int .i64 a,.int .i64 b,.int .i32 m] 24):=by
  have:=z0g Y (.cells #[.string ⟨nm.toArray⟩,.int .i64 d,.int .i64 a,.int .i64 b,.int .i32 m] 24)
  rwa [zY] at this
 have y0:=(hB2.cell (p:=⟨w.heap.size,0,none⟩) sY).trans y0
 have y1:=(hB2.cell (p:=⟨w.heap.size,1,none⟩) sY).trans y1
 have y2:=(hB2.cell (p:=⟨w.heap.size,2,none⟩) sY).trans y2
 have y3:=(hB2.cell (p:=⟨w.heap.size,3,none⟩) sY).trans y3
 have y4:=(hB2.cell (p:=⟨w.heap.size,4,none⟩) sY).trans y4
 have bZ:Below w.heap.size w (Y.alloc (.cells #[.string ⟨nm.toArray⟩,.int .i64 d,.int .i64 a,.int .i64 b,.int .i32 m] 24)):=bY.alloc (Nat.le_of_lt sY) _
 clear hB2 bY
 generalize Y.alloc (.cells #[.string ⟨nm.toArray⟩,.int .i64 d,.int .i64 a,.int .i64 b,.int .i32 m] 24)=Z at *
 refine bodyPost_ret (v:=.tuple #[.agg #[.string ⟨nm.toArray⟩,.int .i64 d,.int .i64 a,.int .i64 b,.int .i32 m],.int .u32 x,.pointer none]) (by simp[results,Tryz.results42,go_sem,y0,y1,y2,y3,y4]) rfl ?_
 exact⟨rfl,bZ⟩
theorem lfetch_kernel (h:z0v w c ma mb mc gl B s l es late) (hf:∀ i,U32 (s.f i)) (x:Int) (hk:z5j s l (s.f 32) 4 2=none) (hx:z2r l.length l (s.f 32) 4 false=x) (nm:List UInt8) (d a b:Nat) (m:Int) (hg:getV x=some ⟨nm,d,a,b,m⟩) (hu:s.u=true) (hkb:kernelB (z1o nm).1=true) :
  Calls Tryz.prog 42 #[.pointer (some ⟨c,0,none⟩)] w fun e w'=>FetchNo 2 x w e w':=by
 have H1:Hid (z0v (w.alloc (.cells #[.string ⟨#[]⟩,.int .i64 0,.int .i64 0,.int .i64 0,.int .i32 0] 24)) c ma mb mc gl B s l es late):=h.below ((Below.refl _ _).alloc (Nat.le_refl _) _)
 have CT:Hid _:=ltake H1.out hf (s.f 32) 4 false 2 (hf 32) (Or.inr (Or.inr rfl)) (Or.inr (Or.inr rfl))
 have R1:Hid ((w.alloc (.cells #[.string ⟨#[]⟩,.int .i64 0,.int .i64 0,.int .i64 0,.int .i32 0] 24)).heap[w.heap.size]?=some (.cells #[.string ⟨#[]⟩,.int .i64 0,.int .i64 0,.int .i64 0,.int .i32 0] 24)):=z0g w _
 have B1:Hid (Below w.heap.size w (w.alloc (.cells #[.string ⟨#[]⟩,.int .i64 0,.int .i64 0,.int .i64 0,.int .i32 0] 24))):=(Below.refl _ _).alloc (Nat.le_refl _) _
 have hc:=h.core.lt
 have hne:¬c=w.heap.size:=by omega
 have c33:=h.core.cell 33 (by decide)
 have e33:z1a s 33=.int .u32 (s.f 32):=rfl
 rw[e33] at c33
 have hsz:(w.alloc (.cells #[.string ⟨#[]⟩,.int .i64 0,.int .i64 0,.int .i64 0,.int .i32 0] 24)).heap.size=w.heap.size+1:=World.size_alloc _ _
 have hx0:z2r l.length l (s.f 32) 4 false=x:=hx
 rw[hk,hx0] at CT
 have HUX:Hid (U32 x):=by rw[← hx];exact loadN_u l (s.f 32) 4
 clear h e33
 go_enter Tryz.func42,Tryz.ntmps42
 go_wp2_with fail
 refine Calls.mono CT.out ?_
 intro e w1 q
 obtain rfl:=q.ok rfl
 have HBW1:Hid (Below w.heap.size w w1):=z0e B1.out q.below
 have R2:=z0f R1.out q.below
 have H2:Hid (z0v w1 c ma mb mc gl B s l es late):=H1.out.below q.below
 clear q CT R1 B1 H1 c33
 have CG:Hid _:=nGetS HUX.out hg
 have HNM:Hid (nm∈z1w):=opN_in hg
 go_wp2_with fail
 refine (CG.out _).mono ?_
 rintro e w2 ⟨rfl,b2⟩
 have HBW2:Hid (Below w.heap.size w w2):=z0e HBW1.out b2
 have R2:=z0f R2 b2
 have H3:Hid (z0v w2 c ma mb mc gl B s l es late):=H2.out.below b2
 have c34:=(H3.out.below ((Below.refl w2.heap.size w2).alloc (Nat.le_refl _) (.cells #[.string ⟨nm.toArray⟩,.int .i64 d,.int .i64 a,.int .i64 b,.int .i32 m] 24))).core.cell 34 (by decide)
 have e34:z1a s 34=.bool s.u:=rfl
 rw[e34,hu] at c34
 clear b2 CG HBW1 e34 H2
 have CK:Hid _:=cisKernels nm HNM.out
 rw[hkb] at CK
 have L2:=z0g w2 (.cells #[.string ⟨nm.toArray⟩,.int .i64 d,.int .i64 a,.int .i64 b,.int .i32 m] 24)
 have R3:=z0f R2 ((Below.refl w2.heap.size w2).alloc (Nat.le_refl _) (.cells #[.string ⟨nm.toArray⟩,.int .i64 d,.int .i64 a,.int .i64 b,.int .i32 m] 24))
 have HBW3:Hid (Below w.heap.size w (w2.alloc (.cells #[.string ⟨nm.toArray⟩,.int .i64 d,.int .i64 a,.int .i64 b,.int .i32 m] 24))):=z0e HBW2.out ((Below.refl _ _).alloc (Nat.le_refl _) _)
 go_wp2_with fail
 generalize w2.alloc (.cells #[.string ⟨nm.toArray⟩,.int .i64 d,.int .i64 a,.int .i64 b,.int .i32 m] 24)=V3 at *
 generalize hlb:w2.heap.size=lb at *
 refine (CK.out _).mono ?_
 rintro e w4 ⟨rfl,b4⟩
 have HBW2:Hid (Below w.heap.size w w4):=z0e HBW3.out b4
 have R2:=z0f R3 b4
 have L4:=z0f L2 b4
 have hlw:lb<w4.heap.size:=(z0a L4).2.2
 clear b4 CK L2 R3 HBW3 c34
 obtain⟨lc,_,_⟩:=z0a L4
 have l0:=lc 0 (.string ⟨nm.toArray⟩) rfl
 have l1:=lc 1 (.int .i64 d) rfl
 have l2:=lc 2 (.int .i64 a) rfl
 have l3:=lc 3 (.int .i64 b) rfl
 have l4:=lc 4 (.int .i32 m) rfl
 clear lc
 obtain⟨rc,rz,rl⟩:=z0a R2
 have r0:=rc 0 (.string ⟨#[]⟩) rfl
 have r1:=rc 1 (.int .i64 0) rfl
 have r2:=rc 2 (.int .i64 0) rfl
 have r3:=rc 3 (.int .i64 0) rfl
 have r4:=rc 4 (.int .i32 0) rfl
 have z0:=rz 0
 have z1:=rz 1
 have z2:=rz 2
 have z3:=rz 3
 have z4:=rz 4
 have ne1:¬w.heap.size=w4.heap.size:=by omega
 have ne2:¬w.heap.size=w4.heap.size+1:=by omega
 clear rc rz R2
 go_wp2_with fail
 obtain⟨Y,hY,y0,y1,y2,y3,y4,sY,zY,bY⟩:=z6z (v0:=.string ⟨#[]⟩) (v1:=.int .i64 0) (v2:=.int .i64 0) (v3:=.int .i64 0) (v4:=.int .i32 0) r0 r1 r2 r3 r4 HBW2.out
 rw[← hY]
 clear hY
 have hB2:Below Y.heap.size Y (Y.alloc (.cells #[.int .u32 2,.int .u32 x] 77)):=(Below.refl _ _).alloc (Nat.le_refl _) _
 have A2:(Y.alloc (.cells #[.int .u32 2,.int .u32 x] 77)).heap[w4.heap.size]?=some (.cells #[.int .u32 2,.int .u32 x] 77):=by
  have:=z0g Y (.cells #[.int .u32 2,.int .u32 x] 77)
  rwa [zY] at this
 have y0:=(hB2.cell (p:=⟨w.heap.size,0,none⟩) sY).trans y0
 have y1:=(hB2.cell (p:=⟨w.heap.size,1,none⟩) sY).trans y1
 have y2:=(hB2.cell (p:=⟨w.heap.size,2,none⟩) sY).trans y2
 have y3:=(hB2.cell (p:=⟨w.heap.size,3,none⟩) sY).trans y3
 have y4:=(hB2.cell (p:=⟨w.heap.size,4,none⟩) sY).trans y4
 have bZ:Below w.heap.size w (Y.alloc (.cells #[.int .u32 2,.int .u32 x] 77)):=bY.alloc (Nat.le_of_lt sY) _
 clear hB2 bY
 generalize Y.alloc (.cells #[.int .u32 2,.int .u32 x] 77)=Z at *
 refine bodyPost_ret (v:=.tuple #[.agg #[.string ⟨#[]⟩,.int .i64 0,.int .i64 0,.int .i64 0,.int .i32 0],.int .u32 0,.pointer (some ⟨w4.heap.size,0,none⟩)]) (by simp[results,Tryz.results42,go_sem,y0,y1,y2,y3,y4]) rfl ?_
 exact⟨⟨_,rfl,(by omega),⟨A2⟩⟩,bZ⟩
theorem lfetch_user (h:z0v w c ma mb mc gl B s l es late) (hf:∀ i,U32 (s.f i)) (x:Int) (hk:z5j s l (s.f 32) 4 2=none) (hx:z2r l.length l (s.f 32) 4 false=x) (nm:List UInt8) (d a b:Nat) (m:Int) (hg:getV x=some ⟨nm,d,a,b,m⟩) (hu:s.u=true) (hkb:kernelB (z1o nm).1=false) :
  Calls Tryz.prog 42 #[.pointer (some ⟨c,0,none⟩)] w fun e w'=>FetchOk nm d a b m x w e w':=by
 have H1:Hid (z0v (w.alloc (.cells #[.string ⟨#[]⟩,.int .i64 0,.int .i64 0,.int .i64 0,.int .i32 0] 24)) c ma mb mc gl B s l es late):=h.below ((Below.refl _ _).alloc (Nat.le_refl _) _)
 have CT:Hid _:=ltake H1.out hf (s.f 32) 4 false 2 (hf 32) (Or.inr (Or.inr rfl)) (Or.inr (Or.inr rfl))
 have R1:Hid ((w.alloc (.cells #[.string ⟨#[]⟩,.int .i64 0,.int .i64 0,.int .i64 0,.int .i32 0] 24)).heap[w.heap.size]?=some (.cells #[.string ⟨#[]⟩,.int .i64 0,.int .i64 0,.int .i64 0,.int .i32 0] 24)):=z0g w _
 have B1:Hid (Below w.heap.size w (w.alloc (.cells #[.string ⟨#[]⟩,.int .i64 0,.int .i64 0,.int .i64 0,.int .i32 0] 24))):=(Below.refl _ _).alloc (Nat.le_refl _) _
 have hc:=h.core.lt
 have hne:¬c=w.heap.size:=by omega
 have c33:=h.core.cell 33 (by decide)
 have e33:z1a s 33=.int .u32 (s.f 32):=rfl
 rw[e33] at c33
 have hsz:(w.alloc (.cells #[.string ⟨#[]⟩,.int .i64 0,.int .i64 0,.int .i64 0,.int .i32 0] 24)).heap.size=w.heap.size+1:=World.size_alloc _ _
 have hx0:z2r l.length l (s.f 32) 4 false=x:=hx
 rw[hk,hx0] at CT
 have HUX:Hid (U32 x):=by rw[← hx];exact loadN_u l (s.f 32) 4
 clear h e33
 go_enter Tryz.func42,Tryz.ntmps42
 go_wp2_with fail
 refine Calls.mono CT.out ?_
 intro e w1 q
 obtain rfl:=q.ok rfl
 have HBW1:Hid (Below w.heap.size w w1):=z0e B1.out q.below
 have R2:=z0f R1.out q.below
 have H2:Hid (z0v w1 c ma mb mc gl B s l es late):=H1.out.below q.below
 clear q CT R1 B1 H1 c33
 have CG:Hid _:=nGetS HUX.out hg
 have HNM:Hid (nm∈z1w):=opN_in hg
 go_wp2_with fail
 refine (CG.out _).mono ?_
 rintro e w2 ⟨rfl,b2⟩
 have HBW2:Hid (Below w.heap.size w w2):=z0e HBW1.out b2
 have R2:=z0f R2 b2
 have H3:Hid (z0v w2 c ma mb mc gl B s l es late):=H2.out.below b2
 have c34:=(H3.out.below ((Below.refl w2.heap.size w2).alloc (Nat.le_refl _) (.cells #[.string ⟨nm.toArray⟩,.int .i64 d,.int .i64 a,.int .i64 b,.int .i32 m] 24))).core.cell 34 (by decide)
 have e34:z1a s 34=.bool s.u:=rfl
 rw[e34,hu] at c34
 clear b2 CG HBW1 e34 H2
 have CK:Hid _:=cisKernels nm HNM.out
 rw[hkb] at CK
 have L2:=z0g w2 (.cells #[.string ⟨nm.toArray⟩,.int .i64 d,.int .i64 a,.int .i64 b,.int .i32 m] 24)
 have R3:=z0f R2 ((Below.refl w2.heap.size w2).alloc (Nat.le_refl _) (.cells #[.string ⟨nm.toArray⟩,.int .i64 d,.int .i64 a,.int .i64 b,.int .i32 m] 24))
 have HBW3:Hid (Below w.heap.size w (w2.alloc (.cells #[.string ⟨nm.toArray⟩,.int .i64 d,.int .i64 a,.int .i64 b,.int .i32 m] 24))):=z0e HBW2.out ((Below.refl _ _).alloc (Nat.le_refl _) _)
 go_wp2_with fail
 generalize w2.alloc (.cells #[.string ⟨nm.toArray⟩,.int .i64 d,.int .i64 a,.int .i64 b,.int .i32 m] 24)=V3 at *
 generalize hlb:w2.heap.size=lb at *
 refine (CK.out _).mono ?_
 rintro e w4 ⟨rfl,b4⟩
 have HBW2:Hid (Below w.heap.size w w4):=z0e HBW3.out b4
 have R2:=z0f R3 b4
 have L4:=z0f L2 b4
 have hlw:lb<w4.heap.size:=(z0a L4).2.2
 clear b4 CK L2 R3 HBW3 c34
 obtain⟨lc,_,_⟩:=z0a L4
 have l0:=lc 0 (.string ⟨nm.toArray⟩) rfl
 have l1:=lc 1 (.int .i64 d) rfl
 have l2:=lc 2 (.int .i64 a) rfl
 have l3:=lc 3 (.int .i64 b) rfl
 have l4:=lc 4 (.int .i32 m) rfl
 clear lc
 obtain⟨rc,rz,rl⟩:=z0a R2
 have r0:=rc 0 (.string ⟨#[]⟩) rfl
 have r1:=rc 1 (.int .i64 0) rfl
 have r2:=rc 2 (.int .i64 0) rfl
 have r3:=rc 3 (.int .i64 0) rfl
 have r4:=rc 4 (.int .i32 0) rfl
 have z0:=rz 0
 have z1:=rz 1
 have z2:=rz 2
 have z3:=rz 3
 have z4:=rz 4
 have ne1:¬w.heap.size=w4.heap.size:=by omega
 have ne2:¬w.heap.size=w4.heap.size+1:=by omega
 clear rc rz R2
 go_wp2_with fail
 obtain⟨Y,hY,y0,y1,y2,y3,y4,sY,zY,bY⟩:=z6z (v0:=.string ⟨nm.toArray⟩) (v1:=.int .i64 d) (v2:=.int .i64 a) (v3:=.int .i64 b) (v4:=.int .i32 m) r0 r1 r2 r3 r4 HBW2.out
 rw[← hY]
 clear hY
 have bZ:=bY
 refine bodyPost_ret (v:=.tuple #[.agg #[.string ⟨nm.toArray⟩,.int .i64 d,.int .i64 a,.int .i64 b,.int .i32 m],.int .u32 x,.pointer none]) (by simp[results,Tryz.results42,go_sem,y0,y1,y2,y3,y4]) rfl ?_
 exact⟨rfl,bZ⟩
end
theorem eqPtr (a:Option Addr) (w:World):(binOp .eql 27 (.pointer a) (.pointer none)).run Tryz.prog w=.ok (.bool a.isNone) w:=by cases a <;> kernel_rfl
theorem lcall {w:World} {c:Nat} {s:CS} (h:LAt w c s) (nm:List UInt8) (hn:nm=[101,99,97,108,108]∨nm=[101,98,114,101,97,107]) (d a b:Nat) (m:Int) :
  Calls Tryz.prog 65 #[.pointer (some ⟨c,0,none⟩),.agg #[.string ⟨nm.toArray⟩,.int .i64 d,.int .i64 a,.int .i64 b,.int .i32 m]] w fun e w'=>∃ g,e=.returned (.pointer (some ⟨g,0,none⟩))∧w.heap.size≤g∧z9f w' g (if nm=[101,98,114,101,97,107] then 3 else if s.u then 8 else 11) (if nm=[101,98,114,101,97,107] then s.f 32 else 0)∧Below w.heap.size w w':=by
 have hc:=h.lt
 have hne:¬c=w.heap.size:=by omega
 have c33:=h.cell 33 (by decide)
 have e33:z1a s 33=.int .u32 (s.f 32):=rfl
 rw[e33] at c33
 have c34:=h.cell 34 (by decide)
 have e34:z1a s 34=.bool s.u:=rfl
 rw[e34] at c34
 clear h e33 e34
 generalize s.f 32=pc at *
 generalize s.u=u at *
 have A2:Hid (∀ o o':Obj,((w.alloc o).alloc o').heap[w.heap.size+1]?=some o'):=fun o o'=>by have:=z0g (w.alloc o) o';rwa [World.size_alloc] at this
 rcases hn with rfl | rfl
 ·cases u
  all_goals
   go_enter Tryz.func65,Tryz.ntmps65
   go_wp2
   go_ret
   exact⟨_,rfl,Nat.le_succ _,⟨A2.out _ _⟩,box2⟩
 ·go_enter Tryz.func65,Tryz.ntmps65
  go_wp2
  go_ret
  exact⟨_,rfl,Nat.le_succ _,⟨A2.out _ _⟩,box2⟩
theorem lTime {w:World} {c:Nat} {s:CS} (h:LAt w c s):Calls Tryz.prog 17 #[.pointer (some ⟨c,0,none⟩)] w fun e w'=>e=.returned (.int .i64 s.t)∧Below w.heap.size w w':=by
 have c58:=h.cell 58 (by decide)
 have e58:z1a s 58=.int .i64 s.t:=rfl
 rw[e58] at c58
 clear h e58
 go_enter Tryz.func17,Tryz.ntmps17
 go_wp2
 go_ret
 exact⟨rfl,Below.refl _ _⟩
theorem lWord {w:World} {c ma mb mc gl B:Nat} {s:CS} {l:List Int} {es:List Ev} {late:List Int} (h:z0v w c ma mb mc gl B s l es late) (x:Int) (hx:U32 x) :
  Calls Tryz.prog 21 #[.pointer (some ⟨c,0,none⟩),.int .u32 x] w fun e w'=>e=.returned (.tuple #[.int .u32 (z2r l.length l x 4 false),.int .i64 (askV l.length x 4)])∧Below w.heap.size w w':=by
 have c0:=h.core.cell 0 (by decide)
 have e0:z1a s 0=s.m:=rfl
 rw[e0,h.m] at c0
 have CL:Hid _:=mload h.mem x 4 false hx
 clear h e0 hx
 go_enter Tryz.func21,Tryz.ntmps21
 go_wp2_with fail
 refine Calls.mono CL.out ?_
 rintro e wq ⟨rfl,hwq⟩
 rw[hwq]
 clear hwq wq CL
 go_wp2
 go_ret2
 exact⟨rfl,Below.refl _ _⟩
theorem lLeak {w:World} {c:Nat} {s:CS} (h:LAt w c s):Calls Tryz.prog 22 #[.pointer (some ⟨c,0,none⟩)] w fun e w'=>e=.returned (.agg #[.int .u32 s.lp,.int .u32 s.lat,.int .i64 s.lt])∧Below w.heap.size w w':=by
 have hc:=h.lt
 have hne:¬c=w.heap.size:=by omega
 have c66:=h.cell 66 (by decide)
 have e66:z1a s 66=.int .u32 s.lp:=rfl
 rw[e66] at c66
 have c67:=h.cell 67 (by decide)
 have e67:z1a s 67=.int .u32 s.lat:=rfl
 rw[e67] at c67
 have c68:=h.cell 68 (by decide)
 have e68:z1a s 68=.int .i64 s.lt:=rfl
 rw[e68] at c68
 clear h e66 e67 e68
 generalize s.lp=lp at *
 generalize s.lat=la at *
 generalize s.lt=lt at *
 go_enter Tryz.func22,Tryz.ntmps22
 go_wp2
 refine bodyPost_ret (v:=.agg #[.int .u32 lp,.int .u32 la,.int .i64 lt]) (by simp[results,Tryz.results22,go_sem]) rfl ⟨rfl,?_⟩
 exact (Below.refl _ _).alloc (Nat.le_refl _) _
theorem lRegs {w:World} {c:Nat} {s:CS} (h:LAt w c s):Calls Tryz.prog 18 #[.pointer (some ⟨c,0,none⟩)] w fun e w'=>e=.returned (.agg (z0c s.f s.u))∧Below w.heap.size w w':=by
 obtain⟨fs,hfs⟩:=z3f
 have HS:Hid _:=hfs
 have HZ:Hid (∀ Z,LAt (w.alloc Z) c s):=fun Z=>h.below ((Below.refl _ _).alloc (Nat.le_refl _) _)
 have A0:Hid (∀ Z,(w.alloc Z).heap[w.heap.size]?=some Z):=fun Z=>z0g w Z
 clear h hfs
 go_enter Tryz.func18,Tryz.ntmps18
 go_wp2_with (first | (refine z0w (by rfl) 37 (.tmp 8) rfl c 1 rfl (z0c s.f s.u) _ (HZ.out _).regs HS.out rfl (by rw[z0b];exact z0o) ?_) | (refine wpList_store_row rfl 37 (.tmp 2) (.tmp 9) rfl w.heap.size (z0c s.f s.u) rfl rfl _ _ (A0.out _) (by rw[z0b];exact z0o) (by rw[z0b];rfl) (z0s _ _) ?_))
 exact bodyPost_ret (results_cell_row rfl _ _ _ _ _ _ _ rfl (setRow_heap _ _ _ _ _ _ (A0.out _)) HS.out rfl (by rw[z0b];exact z0o)) rfl ⟨rfl,below_setRow ((Below.refl _ _).alloc (Nat.le_refl _) _) (Nat.le_refl _) _⟩
theorem lPut {w : World} {c : Nat} {s : CS} (h : LAt w c s) (f : Nat → Int) (u : Bool) : Calls Tryz.prog 15 #[.pointer (some ⟨c, 0, none⟩), .agg (z0c f u)] w fun e w' => e = .returned (.tuple #[]) ∧ LAt w' c { s with f := set1 f 0 0, u := u } ∧ Chg (· = c) w w' := by
  obtain⟨fs,hfs⟩:=z3f
  have HS:Hid _:=hfs
  have hbox:=z3r f u
  have HC:Hid (LAt (w.alloc (.cells (z0c f u) 37)) c s):=h.below ((Below.refl _ _).alloc (Nat.le_refl _) _)
  have A0:Hid ((w.alloc (.cells (z0c f u) 37)).heap[w.heap.size]?=some (.cells (z0c f u) 37)):=z0g w _
  have G0 : Hid (Chg (· = c) w (w.alloc (.cells (z0c f u) 37))) := (Chg.refl _ _).alloc _
  have hne:w.heap.size≠c:=by have:=h.lt;omega
  clear h hfs
  go_enter Tryz.func15,Tryz.ntmps15
  go_wp2_with (first | (refine z0h rfl rfl rfl rfl A0.out (by decide) (by decide) ?_;intro W1 hB hO hL) | (refine wpList_load_row rfl 37 (.tmp 3) rfl _ rfl _ _ _ _ (by assumption) HS.out rfl (by rw[z0b];exact z0o) ?_) | (refine z1v rfl 37 (.tmp 11) (.tmp 9) rfl c 1 (z0c (set1 f 0 0) u) rfl rfl (by rw[z0b];exact (show LAt _ c s from ⟨(hO c (Ne.symm hne)).trans HC.out.is⟩).there) (by rw[z0b];exact z0o) (z0s _ _) ?_;intro W2 e2))
  go_end0
  subst e2
  have L1:LAt W1 c s:=⟨(hO c (Ne.symm hne)).trans HC.out.is⟩
  exact⟨rfl,L1.regsIn _ _,(Chg.of (hL w.heap.size w (Nat.le_refl _) ((Below.refl _ _).alloc (Nat.le_refl _) _))).owns _⟩
theorem ltrap {w : World} {c : Nat} {s : CS} (h : LAt w c s) (hf : ∀ i, U32 (s.f i)) (cs v : Int) (ht : 0 ≤ s.t) (ht' : s.t ≤ 1152921504606846976) :
    Calls Tryz.prog 29 #[.pointer (some ⟨c, 0, none⟩), .agg #[.int .u32 cs, .int .u32 v]] w fun e w' => e = .returned (.tuple #[]) ∧ LAt w' c (z1j s cs v) ∧ Chg (· = c) w w' := by
  have CC:Hid _:=fun w=>ccost (k:=13) (f:=1) (c:=4) (by decide) w
  have CT:Hid _:=nTrap s.f s.u hf cs v
  have hmo:Tryz.prog.follows .mixedOrders=true:=by kernel_rfl
  obtain⟨fs,hfs⟩:=z3f
  have HS:Hid _:=hfs
  have HC:Hid _:=h
  have hne:w.heap.size≠c:=by have:=h.lt;omega
  have w1:IntKind.i64.wrap (s.t+4)=s.t+4:=i64_id (by omega) (by omega)
  have HW1:Hid _:=w1
  unfold z1j
  obtain⟨F,hF⟩:∃ F,F=z5i s.f s.u cs v:=⟨_,rfl⟩
  rw[← hF]
  rw[← hF] at CT
  clear h hf ht ht' hfs hF w1
  go_enter Tryz.func29,Tryz.ntmps29
  go_wp2_with fail
  have I1:=z0g w (.cells #[.int .u32 cs,.int .u32 v] 77)
  have H1:Hid (LAt (w.alloc (.cells #[.int .u32 cs,.int .u32 v] 77)) c s):=HC.out.below ((Below.refl _ _).alloc (Nat.le_refl _) _)
  have G1 : Hid (Chg (· = c) w (w.alloc (.cells #[.int .u32 cs, .int .u32 v] 77))) := (Chg.refl _ _).alloc _
  generalize w.alloc (.cells #[.int .u32 cs,.int .u32 v] 77)=W1 at *
  generalize w.heap.size=bf at *
  refine z1b 12 [] [.pointer (some ⟨c,0,none⟩),.pointer (some ⟨c,0,none⟩),.pointer (some ⟨c,0,none⟩),.pointer (some ⟨c,1,none⟩),.agg (z0c s.f s.u),.pointer (some ⟨bf,0,none⟩),.int .u32 cs,.pointer (some ⟨bf,1,none⟩),.int .u32 v,.agg (z0c F false),.pointer (some ⟨c,0,none⟩),.pointer (some ⟨c,1,none⟩)] hmo (by kernel_rfl) (by kernel_rfl) (by intro r hr;cases hr) ?_ (by intro r hr;cases hr) (by intro r hr;cases hr) ?_
  · generalize hl:lay _ _ _=af
    have e0:af.tmps[0]?.getD undef=.pointer (some ⟨c,0,none⟩):=by rw[← hl];kernel_rfl
    have e5:af.tmps[5]?.getD undef=.pointer (some ⟨c,0,none⟩):=by rw[← hl];kernel_rfl
    have e6:af.tmps[6]?.getD undef=.pointer (some ⟨c,0,none⟩):=by rw[← hl];kernel_rfl
    have v7:af.eval (.tmp 7)=.pointer (some ⟨c,1,none⟩):=by rw[← hl];kernel_rfl
    have e3:af.tmps[3]?.getD undef=.pointer (some ⟨bf,0,none⟩):=by rw[← hl];kernel_rfl
    have e9:af.tmps[9]?.getD undef=.pointer (some ⟨bf,0,none⟩):=by rw[← hl];kernel_rfl
    have e11:af.tmps[11]?.getD undef=.pointer (some ⟨bf,1,none⟩):=by rw[← hl];kernel_rfl
    have e8:af.tmps[8]?.getD undef=.agg (z0c s.f s.u):=by rw[← hl];kernel_rfl
    have e10:af.tmps[10]?.getD undef=.int .u32 cs:=by rw[← hl];kernel_rfl
    have e12:af.tmps[12]?.getD undef=.int .u32 v:=by rw[← hl];kernel_rfl
    have e4:af.tmps[4]?.getD undef=.pointer (some ⟨c,0,none⟩):=by rw[← hl];kernel_rfl
    have e14:af.tmps[14]?.getD undef=.pointer (some ⟨c,0,none⟩):=by rw[← hl];kernel_rfl
    clear hl
    refine And.intro (fun w' hw=>z0d (by simp[execOp,go_sem,e0])) ?_
    refine And.intro (fun w' hw=>z0d (by simp[execOp,go_sem,e0])) ?_
    refine And.intro (fun w' hw=>z0d (by simp[execOp,go_sem,e5])) ?_
    refine And.intro (fun w' hw=>z0d (by simp[execOp,go_sem,e6])) ?_
    refine And.intro (fun w' hw=>z8x 37 (.tmp 7) rfl c 1 v7 (z0c s.f s.u) _ (H1.out.below hw).regs HS.out rfl (by rw[z0b];exact z0o)) ?_
    refine And.intro (fun w' hw=>z0d (by simp[execOp,go_sem,e3])) ?_
    refine And.intro (fun w' hw=>by
      have q0:=(z0a (z0f I1 hw)).1 0 (.int .u32 cs) rfl
      exact z0d (by simp[execOp,go_sem,e9,q0])) ?_
    refine And.intro (fun w' hw=>z0d (by simp[execOp,go_sem,e3])) ?_
    refine And.intro (fun w' hw=>by
      have q1:=(z0a (z0f I1 hw)).1 1 (.int .u32 v) rfl
      exact z0d (by simp[execOp,go_sem,e11,q1])) ?_
    refine And.intro (fun w' hw=>z1k 40 #[.agg (z0c s.f s.u),.int .u32 cs,.int .u32 v] (by simp[go_sem,e8,e10,e12]) (CT.out _)) ?_
    refine And.intro (fun w' hw=>z0d (by simp[execOp,go_sem,e4])) ?_
    refine And.intro (fun w' hw=>z0d (by simp[execOp,go_sem,e14])) ?_
    exact True.intro
  · intro β3 W3 hW3 _ _
    have H3:Hid _:=H1.out.below hW3
    have G3:Hid _:=G1.out.step hW3
    clear hW3 H1 G1 CT I1
    simp[z3o,lay,Act.put]
    go_wp2_with (first | (refine z1v rfl 37 (.tmp 15) (.tmp 13) rfl c 1 (z0c F false) rfl rfl (by rw[z0b];exact H3.out.there) (by rw[z0b];exact z0o) (z0s _ _) ?_;intro W4 e4))
    have H4:Hid (LAt W4 c { s with f:=F,u:=false }):=by rw[e4];exact H3.out.regsIn _ _
    have G4 : Hid (Chg (· = c) w W4) := by rw [e4]; exact G3.out.owns _
    clear e4 H3 G3
    have w1:=HW1.out
    refine z1b 9 [] [.pointer (some ⟨c,0,none⟩),.pointer (some ⟨c,0,none⟩),.pointer (some ⟨c,58,none⟩),.int .i64 s.t,.agg #[.int .i64 13,.int .i64 1],.int .i64 4,.int .i64 (s.t+4),.pointer (some ⟨c,0,none⟩),.pointer (some ⟨c,58,none⟩)] hmo (by kernel_rfl) (by kernel_rfl) (by intro r hr;cases hr) ?_ (by intro r hr;cases hr) (by intro r hr;cases hr) ?_
    · generalize hl:lay _ _ _=af
      have e0:af.tmps[0]?.getD undef=.pointer (some ⟨c,0,none⟩):=by rw[← hl];kernel_rfl
      have e16:af.tmps[16]?.getD undef=.pointer (some ⟨c,0,none⟩):=by rw[← hl];kernel_rfl
      have e17:af.tmps[17]?.getD undef=.pointer (some ⟨c,0,none⟩):=by rw[← hl];kernel_rfl
      have e18:af.tmps[18]?.getD undef=.pointer (some ⟨c,58,none⟩):=by rw[← hl];kernel_rfl
      have e20:af.tmps[20]?.getD undef=.agg #[.int .i64 13,.int .i64 1]:=by rw[← hl];kernel_rfl
      have e19:af.tmps[19]?.getD undef=.int .i64 s.t:=by rw[← hl];kernel_rfl
      have e21:af.tmps[21]?.getD undef=.int .i64 4:=by rw[← hl];kernel_rfl
      have e23:af.tmps[23]?.getD undef=.pointer (some ⟨c,0,none⟩):=by rw[← hl];kernel_rfl
      clear hl
      refine And.intro (fun w' hw=>z0d (by simp[execOp,go_sem,e0])) ?_
      refine And.intro (fun w' hw=>z0d (by simp[execOp,go_sem,e16])) ?_
      refine And.intro (fun w' hw=>z0d (by simp[execOp,go_sem,e17])) ?_
      refine And.intro (fun w' hw=>by
        have c58:w'.cell? ⟨c,58,none⟩=some (.int .i64 s.t):=(H4.out.below hw).cell 58 (by decide)
        exact z0d (by simp[execOp,go_sem,e18,c58])) ?_
      refine And.intro (fun w' hw=>z0d (by simp[execOp,go_sem])) ?_
      refine And.intro (fun w' hw=>z1k 41 #[.agg #[.int .i64 13,.int .i64 1]] (by simp[go_sem,e20]) (CC.out _)) ?_
      refine And.intro (fun w' hw=>by
        exact z0d (by simp[execOp,go_sem,e19,e21,w1])) ?_
      refine And.intro (fun w' hw=>z0d (by simp[execOp,go_sem,e16])) ?_
      refine And.intro (fun w' hw=>z0d (by simp[execOp,go_sem,e23])) ?_
      exact True.intro
    · intro β5 W5 hW5 _ _
      have H5:Hid _:=H4.out.below hW5
      have G5:Hid _:=G4.out.step hW5
      clear hW5 H4 G4 CC
      have c58:=H5.out.cell 58 (by decide)
      have f58:=H5.out.free 58
      have e58:z1a { s with f:=F,u:=false } 58=.int .i64 s.t:=rfl
      rw[e58] at c58
      have HP:Hid (LAt (W5.setCell ⟨c,58,none⟩ (.int .i64 (s.t+4))) c { s with f:=F,u:=false,t:=s.t+4 }):=H5.out.put 58 _ (fun j _=>lg_t { s with f:=F,u:=false } _ j)
      clear e58 H5
      simp[z3o,lay,Act.put]
      go_wp2
      go_end0
      exact⟨rfl,HP.out,G5.out.own _⟩
theorem ldelay {w : World} {c gl : Nat} {s : CS} {late : List Int} (h : LAt w c s) (hl : LateL w gl s.la late s.came.toNat) (hn : late.length ≤ 1000) (hc0 : 0 ≤ s.came) (hg : 0 < late.length → gl ≠ c) :
    Calls Tryz.prog 30 #[.pointer (some ⟨c, 0, none⟩)] w fun e w' => e = .returned (.int .i64 (z4f s late)) ∧ ∃ la, LAt w' c { s with la := la } ∧ LateL w' gl la late (s.came + 1).toNat ∧ Chg (· = c) w w' := by
  obtain⟨sa,cap,off,e1,ec,e2⟩:=hl.is
  have c61:=h.cell 61 (by decide)
  have f61:=h.free 61
  have e61:z1a s 61=s.la:=rfl
  rw[e61,e1] at c61
  have HC:Hid _:=h
  by_cases hk:s.came.toNat<late.length
  · obtain⟨rfl,q2,q3⟩:=e2 hk
    have k0:=q3 0 hk
    rw[Nat.add_zero,Nat.add_zero] at k0
    have hm:z4f s late=max 0 (late.getD s.came.toNat 0):=by unfold z4f;rw[if_pos (by omega)]
    obtain⟨n1,hn1⟩:∃ n1,late.length-s.came.toNat=n1+1:=⟨late.length-s.came.toNat-1,by omega⟩
    have hn2:late.length-(s.came+1).toNat=n1:=by omega
    rw[hn1] at c61 ec
    rw[hm]
    obtain⟨x,hx⟩:∃ x,x=late.getD s.came.toNat 0:=⟨_,rfl⟩
    rw[← hx] at k0 ⊢
    have l1:(1:Int)≤(n1:Int)+1:=by omega
    have l2:((n1:Int)+1==0)=false:=by rw[beq_eq_false_iff_ne];omega
    have l3:(0:Int)<(n1:Int)+1:=by omega
    have HX:Hid _:=hx
    have HE2:Hid _:=q3
    have HN2:Hid _:=hn2
    have hn3:n1≤1000:=by omega
    have HP:Hid (∀ v,LAt (w.setCell ⟨c,61,none⟩ v) c { s with la:=v }):=fun v=>h.put 61 _ (fun j _=>lg_la s v j)
    have HG : Hid (∀ v, Chg (· = c) w (w.setCell ⟨c, 61, none⟩ v)) := fun v => (Chg.refl _ _).own _
    have HL:Hid (∀ off' cap',n1≤cap'→(0<n1→off'=off+1)→∀ v,LateL (w.setCell ⟨c,61,none⟩ v) gl (.slice (some ⟨gl,off',none⟩) n1 cap') late (s.came+1).toNat):=fun off' cap' hc' ho v=>by
      refine⟨some ⟨gl,off',none⟩,cap',off',by rw[hn2],by omega,fun hq=>⟨rfl,by simpa [World.setCell] using q2,fun i hi=>?_⟩⟩
      have hb:(w.setCell ⟨c,61,none⟩ v).heap[gl]?=w.heap[gl]?:=Below.heap_setCell _ _ _ _ (hg (by omega))
      rw[World.cell?_of_block hb,ho (by omega),show off+1+i=off+(i+1) by omega,q3 (i+1) (by omega),show s.came.toNat+(i+1)=(s.came+1).toNat+i by omega]
    clear e1 e2 hl hm e61 h hx q3 hn1 hn2 hn hk hc0 hg q2 HE2 HN2
    go_enter Tryz.func30,Tryz.ntmps30
    go_wp2
    all_goals go_ret
    all_goals refine⟨?_,_,HP.out _,HL.out _ _ (by omega) (by omega) _,HG.out _⟩
    all_goals first | (rw[show max 0 x=max x 0 by omega];rfl) | (rw[show max 0 x=0 by omega];rfl) | (rw[show max 0 x=x by omega];rfl)
  · have hz:late.length-s.came.toNat=0:=by omega
    have hm:z4f s late=0:=by unfold z4f;rw[if_neg (by omega)]
    rw[hz] at c61
    rw[hm]
    have HL:Hid (LateL w gl s.la late (s.came+1).toNat):=⟨sa,cap,off,by rw[e1,hz,show late.length-(s.came+1).toNat=0 by omega],by omega,fun q=>by omega⟩
    clear e1 e2 hl hm hz e61 h
    go_enter Tryz.func30,Tryz.ntmps30
    go_wp2
    go_ret
    exact⟨rfl,s.la,HC.out,HL.out,Chg.refl _ _⟩
def z4v (nm:List UInt8) (old x:Int):Int:=if nm=[99,115,114,114,115] then bits .or .u32 old x else if nm=[99,115,114,114,99] then bits .andNot .u32 old x else x
theorem cwritten (nm:List UInt8) (hn:nm=[99,115,114,114,119]∨nm=[99,115,114,114,115]∨nm=[99,115,114,114,99]) (o x:Int) (w:World) :
  Calls Tryz.prog 79 #[.string ⟨nm.toArray⟩,.int .u32 o,.int .u32 x] w fun e w'=>e=.returned (.int .u32 (z4v nm o x))∧w'=w:=by
 rcases hn with rfl | rfl | rfl
 all_goals
  go_enter Tryz.func79,Tryz.ntmps79
  go_wp2
  go_ret
  exact⟨rfl,rfl⟩
theorem yields_regs {ops:Array Oper} {S:World→Prop} {op:Oper} {a:Act} (hw:Region.wanted op (yielded ops a.tmps)=true) (x:Operand) (ho:op.op=.load 37 x) (c:Nat) (hx:a.eval x=.pointer (some ⟨c,1,none⟩)) (f:Nat→Int) (u:Bool) (hS:∀ w,S w→w.rangeAt c 1 (z0c f u).toList):YieldsIf Tryz.prog ops S op (.agg (z0c f u)) a:=by
 obtain⟨fs,hfs⟩:=z3f
 have:=yieldsIf_load_mid (P:=Tryz.prog) (S:=S) hw 37 x ho c 1 hx (z0c f u).toList _ hS hfs rfl (by rw[Array.length_toList,z0b];exact z0o)
 rw[Array.toArray_toList] at this
 exact this
theorem readN_u {f:Nat→Int} (h:∀ i,U32 (f i)) (n now:Int) (due:Bool):U32 (z4e f n now due):=by
 unfold z4e
 split
 ·split
  ·exact⟨by decide,by decide⟩
  ·exact⟨by decide,by decide⟩
 ·split
  ·exact⟨by omega,by omega⟩
  ·split
   ·exact h _
   ·exact⟨by decide,by decide⟩
theorem written_u (nm:List UInt8) {o x:Int} (hx:U32 x):U32 (z4v nm o x):=by
 unfold z4v
 split
 ·exact z1t _ _ _
 ·split
  ·exact z1t _ _ _
  ·exact hx
structure InsIn (w:World) (c bi:Nat) (s:CS) (nm:List UInt8) (d a b:Nat) (m:Int):Prop where
 core:LAt w c s
 ins:w.heap[bi]?=some (.cells #[.string ⟨nm.toArray⟩,.int .i64 d,.int .i64 a,.int .i64 b,.int .i32 m] 24)
theorem InsIn.below {w w':World} {c bi:Nat} {s:CS} {nm:List UInt8} {d a b:Nat} {m:Int} (h:InsIn w c bi s nm d a b m) (hb:Below w.heap.size w w'):InsIn w' c bi s nm d a b m:=⟨h.core.below hb,z0f h.ins hb⟩
theorem lstatus_bad {w:World} {c:Nat} {s:CS} (h:LAt w c s) (hf:∀ i,U32 (s.f i)) (nm:List UInt8) (d a b:Nat) (m x:Int) (hm:0≤m∧m<4096) (hr:z2b m≠0) :
  Calls Tryz.prog 60 #[.pointer (some ⟨c,0,none⟩),.agg #[.string ⟨nm.toArray⟩,.int .i64 d,.int .i64 a,.int .i64 b,.int .i32 m],.int .u32 x] w fun e w'=>∃ g,e=.returned (.pointer (some ⟨g,0,none⟩))∧w.heap.size≤g∧z9f w' g 2 x∧Below w.heap.size w w':=by
 obtain⟨fs,hfs⟩:=z3f
 have HS:Hid _:=hfs
 have wm:IntKind.i64.wrap m=m:=i64_id (by omega) (by omega)
 have CR:Hid _:=fun w=>nRead s.f s.u hf m s.t (dueV s) w
 have HC:Hid _:=h
 clear h hfs
 go_enter Tryz.func60,Tryz.ntmps60
 go_wp2_with fail
 have I1:=z0g w (.cells #[.string ⟨nm.toArray⟩,.int .i64 d,.int .i64 a,.int .i64 b,.int .i32 m] 24)
 have H1:Hid (InsIn (w.alloc (.cells #[.string ⟨nm.toArray⟩,.int .i64 d,.int .i64 a,.int .i64 b,.int .i32 m] 24)) c w.heap.size s nm d a b m):=⟨HC.out.below ((Below.refl _ _).alloc (Nat.le_refl _) _),I1⟩
 have G1:Hid (Below w.heap.size w (w.alloc (.cells #[.string ⟨nm.toArray⟩,.int .i64 d,.int .i64 a,.int .i64 b,.int .i32 m] 24))):=(Below.refl _ _).alloc (Nat.le_refl _) _
 have hbi:¬w.heap.size=c:=by have:=HC.out.lt;omega
 generalize w.alloc (.cells #[.string ⟨nm.toArray⟩,.int .i64 d,.int .i64 a,.int .i64 b,.int .i32 m] 24)=W1 at *
 generalize hws:w.heap.size=bi at *
 clear I1
 refine wp_region_noPanic ?_
 refine wp_region_held_drew (S:=fun w'=>InsIn w' c bi s nm d a b m) (by kernel_rfl) (H1.out.below (Below.refl _ _).drew) (fun hHeld=>?_)
 refine z0n 0 (some 11) (v:=?_) rfl rfl (by kernel_rfl) (by kernel_rfl) (by kernel_rfl) (fun _ _ _ h=>h) (Or.inl ⟨by rfl,?_⟩) (by assumption) ?_
 rotate_left
 ·intro w hSw
  clear hSw
  go_simp
  try with_reducible rfl
 simp only[Act.put,List.setIfInBounds_toArray,List.set_cons_zero,List.set_cons_succ]
 refine z0n 1 (some 12) (v:=?_) rfl rfl (by kernel_rfl) (by kernel_rfl) (by kernel_rfl) (fun _ _ _ h=>h) (Or.inl ⟨by rfl,?_⟩) (by assumption) ?_
 rotate_left
 ·intro w hSw
  clear hSw
  go_simp
  try with_reducible rfl
 simp only[Act.put,List.setIfInBounds_toArray,List.set_cons_zero,List.set_cons_succ]
 refine z0n 2 (some 13) (v:=?_) rfl rfl (by kernel_rfl) (by kernel_rfl) (by kernel_rfl) (fun _ _ _ h=>h) (Or.inl ⟨by rfl,?_⟩) (by assumption) ?_
 rotate_left
 ·intro w hSw
  clear hSw
  go_simp
  try with_reducible rfl
 simp only[Act.put,List.setIfInBounds_toArray,List.set_cons_zero,List.set_cons_succ]
 refine z0n 3 (some 14) (v:=.agg (z0c s.f s.u)) rfl rfl (by kernel_rfl) (by kernel_rfl) (by kernel_rfl) (fun _ _ _ h=>h) (yields_regs (by rfl) (.tmp 13) rfl c rfl _ _ (fun w' hS=>hS.core.regs)) (by assumption) ?_
 simp only[Act.put,List.setIfInBounds_toArray,List.set_cons_zero,List.set_cons_succ]
 refine z0n 4 (some 15) (v:=?_) rfl rfl (by kernel_rfl) (by kernel_rfl) (by kernel_rfl) (fun _ _ _ h=>h) (Or.inl ⟨by rfl,?_⟩) (by assumption) ?_
 rotate_left
 ·intro w hSw
  clear hSw
  go_simp
  try with_reducible rfl
 simp only[Act.put,List.setIfInBounds_toArray,List.set_cons_zero,List.set_cons_succ]
 refine z0n 5 (some 16) (v:=?_) rfl rfl (by kernel_rfl) (by kernel_rfl) (by kernel_rfl) (fun _ _ _ h=>h) (Or.inl ⟨by rfl,?_⟩) (by assumption) ?_
 rotate_left
 ·intro w hSw
  have q4:=(z0a hSw.ins).1 4 (.int .i32 m) rfl
  clear hSw
  go_simp
  try with_reducible rfl
 simp only[Act.put,List.setIfInBounds_toArray,List.set_cons_zero,List.set_cons_succ]
 refine z0n 6 (some 17) (v:=?_) rfl rfl (by kernel_rfl) (by kernel_rfl) (by kernel_rfl) (fun _ _ _ h=>h) (Or.inl ⟨by rfl,?_⟩) (by assumption) ?_
 rotate_left
 ·intro w hSw
  clear hSw
  go_simp
  try with_reducible rfl
 simp only[Act.put,List.setIfInBounds_toArray,List.set_cons_zero,List.set_cons_succ]
 refine z0n 7 (some 18) (v:=?_) rfl rfl (by kernel_rfl) (by kernel_rfl) (by kernel_rfl) (fun _ _ _ h=>h) (Or.inl ⟨by rfl,?_⟩) (by assumption) ?_
 rotate_left
 ·intro w hSw
  clear hSw
  go_simp
  try with_reducible rfl
 simp only[Act.put,List.setIfInBounds_toArray,List.set_cons_zero,List.set_cons_succ]
 refine z0n 8 (some 19) (v:=?_) rfl rfl (by kernel_rfl) (by kernel_rfl) (by kernel_rfl) (fun _ _ _ h=>h) (Or.inl ⟨by rfl,?_⟩) (by assumption) ?_
 rotate_left
 ·intro w hSw
  clear hSw
  go_simp
  try with_reducible rfl
 simp only[Act.put,List.setIfInBounds_toArray,List.set_cons_zero,List.set_cons_succ]
 refine z0n 9 (some 20) (v:=?_) rfl rfl (by kernel_rfl) (by kernel_rfl) (by kernel_rfl) (fun _ _ _ h=>h) (Or.inl ⟨by rfl,?_⟩) (by assumption) ?_
 rotate_left
 ·intro w hSw
  clear hSw
  go_simp
  try with_reducible rfl
 simp only[Act.put,List.setIfInBounds_toArray,List.set_cons_zero,List.set_cons_succ]
 refine z0n 10 (some 21) (v:=?_) rfl rfl (by kernel_rfl) (by kernel_rfl) (by kernel_rfl) (fun _ _ _ h=>h) (Or.inl ⟨by rfl,?_⟩) (by assumption) ?_
 rotate_left
 ·intro w hSw
  have q58:w.cell? ⟨c,58,none⟩=some (.int .i64 s.t):=hSw.core.cell 58 (by decide)
  clear hSw
  go_simp
  try with_reducible rfl
 simp only[Act.put,List.setIfInBounds_toArray,List.set_cons_zero,List.set_cons_succ]
 refine z0n 11 (some 22) (v:=?_) rfl rfl (by kernel_rfl) (by kernel_rfl) (by kernel_rfl) (fun _ _ _ h=>h) (Or.inl ⟨by rfl,?_⟩) (by assumption) ?_
 rotate_left
 ·intro w hSw
  clear hSw
  go_simp
  try with_reducible rfl
 simp only[Act.put,List.setIfInBounds_toArray,List.set_cons_zero,List.set_cons_succ]
 refine z5q 12 (some 23) 39 #[.pointer (some ⟨c,0,none⟩)] rfl rfl (by rfl) (by kernel_rfl) (by kernel_rfl) (Calls.mono (ldue hHeld.core) ?_)
 rintro e w2 ⟨rfl,b2⟩
 refine⟨_,rfl,hHeld.below b2,fun hHeld=>?_⟩
 have G2:Hid (Below bi w w2):=by have:=z0e (by rw[hws];exact G1.out.trans (Below.refl _ _).drew) b2;rw[hws] at this;exact this
 clear b2
 simp only[Act.put,List.setIfInBounds_toArray,List.set_cons_zero,List.set_cons_succ]
 refine z5q 13 (some 24) 77 #[.agg (z0c s.f s.u),.int .i64 m,.int .i64 s.t,.bool (dueV s)] rfl rfl (by rfl) (by kernel_rfl) (by kernel_rfl) (Calls.mono (CR.out _) ?_)
 rintro e w3 ⟨rfl,b3⟩
 refine⟨_,rfl,hHeld.below b3,fun hHeld=>?_⟩
 have G3:Hid (Below bi w w3):=by have:=z0e (by rw[hws];exact G2.out) b3;rw[hws] at this;exact this
 clear b3 G1 G2 H1 CR
 simp only[Act.put,List.setIfInBounds_toArray,List.set_cons_zero,List.set_cons_succ]
 refine z0n 14 (some 10) (v:=?_) rfl rfl (by kernel_rfl) (by kernel_rfl) (by kernel_rfl) (fun _ _ _ h=>h) (Or.inl ⟨by rfl,?_⟩) (by assumption) ?_
 rotate_left
 ·intro w hSw
  clear hSw
  go_simp
  try with_reducible rfl
 simp only[Act.put,List.setIfInBounds_toArray,List.set_cons_zero,List.set_cons_succ]
 refine z0n 15 (some 25) (v:=?_) rfl rfl (by kernel_rfl) (by kernel_rfl) (by kernel_rfl) (fun _ _ _ h=>h) (Or.inl ⟨by rfl,?_⟩) (by assumption) ?_
 rotate_left
 ·intro w hSw
  clear hSw
  go_simp
  try with_reducible rfl
 simp only[Act.put,List.setIfInBounds_toArray,List.set_cons_zero,List.set_cons_succ]
 refine z0n 16 (some 26) (v:=?_) rfl rfl (by kernel_rfl) (by kernel_rfl) (by kernel_rfl) (fun _ _ _ h=>h) (Or.inl ⟨by rfl,?_⟩) (by assumption) ?_
 rotate_left
 ·intro w hSw
  clear hSw
  go_simp
  try with_reducible rfl
 simp only[Act.put,List.setIfInBounds_toArray,List.set_cons_zero,List.set_cons_succ]
 refine z0n 17 (some 7) (v:=?_) rfl rfl (by kernel_rfl) (by kernel_rfl) (by kernel_rfl) (fun _ _ _ h=>h) (Or.inl ⟨by rfl,?_⟩) (by assumption) ?_
 rotate_left
 ·intro w hSw
  clear hSw
  go_simp
  try with_reducible rfl
 simp only[Act.put,List.setIfInBounds_toArray,List.set_cons_zero,List.set_cons_succ]
 refine z0n 18 (some 8) (v:=?_) rfl rfl (by kernel_rfl) (by kernel_rfl) (by kernel_rfl) (fun _ _ _ h=>h) (Or.inl ⟨by rfl,?_⟩) (by assumption) ?_
 rotate_left
 ·intro w hSw
  clear hSw
  go_simp
  try with_reducible rfl
 simp only[Act.put,List.setIfInBounds_toArray,List.set_cons_zero,List.set_cons_succ]
 refine wpAnyH_done (by kernel_rfl) ?_ _
 refine NoPanic.normal ?_
 have hr':=beq_eq_false_iff_ne.2 hr
 generalize z2b m=E at *
 clear hHeld
 go_wp2
 go_ret
 exact⟨_,rfl,G3.out.size,⟨z0g _ _⟩,(by rw[hws];exact G3.out.alloc (by rw[← hws];exact G3.out.size) _)⟩
structure StatRes (bad:Bool) (s':CS) (x:Int) (w:World) (c:Nat) (s:CS) (e:Ending) (w':World):Prop where
  ok:bad=false→e=.returned (.pointer none)∧LAt w' c s'
  no:bad=true→LAt w' c s∧∃ g,e=.returned (.pointer (some ⟨g,0,none⟩))∧w.heap.size≤g∧z9f w' g 2 x
  chg : Chg (· = c) w w'
structure InsRow (w:World) (c bi lr:Nat) (s:CS) (nm:List UInt8) (d a b:Nat) (m:Int):Prop where
 core:LAt w c s
 ins:w.heap[bi]?=some (.cells #[.string ⟨nm.toArray⟩,.int .i64 d,.int .i64 a,.int .i64 b,.int .i32 m] 24)
 row:w.heap[lr]?=some (.cells (z0c s.f s.u) 37)
theorem InsRow.below {w w':World} {c bi lr:Nat} {s:CS} {nm:List UInt8} {d a b:Nat} {m:Int} (h:InsRow w c bi lr s nm d a b m) (hb:Below w.heap.size w w'):InsRow w' c bi lr s nm d a b m:=⟨h.core.below hb,z0f h.ins hb,z0f h.row hb⟩
theorem yields_row57 {ops:Array Oper} {S:World→Prop} {op:Oper} {a:Act} (hw:Region.wanted op (yielded ops a.tmps)=true) (x:Operand) (ho:op.op=.load 37 x) (c:Nat) (hx:a.eval x=.pointer (some ⟨c,0,none⟩)) (f:Nat→Int) (u:Bool) (hS:∀ w,S w→w.rangeAt c 0 (z0c f u).toList):YieldsIf Tryz.prog ops S op (.agg (z0c f u)) a:=by
 obtain⟨fs,hfs⟩:=z3f
 have:=yieldsIf_load_mid (P:=Tryz.prog) (S:=S) hw 37 x ho c 0 hx (z0c f u).toList _ hS hfs rfl (by rw[Array.length_toList,z0b];exact z0o)
 rw[Array.toArray_toList] at this
 exact this
theorem row57_range {w:World} {b:Nat} {t:TypeId} {f:Nat→Int} {u:Bool} (h:w.heap[b]?=some (.cells (z0c f u) t)):w.rangeAt b 0 (z0c f u).toList:=by
 intro j v hv
 rw[Array.getElem?_toList] at hv
 have:=(z0a h).1 j v hv
 rw[Nat.zero_add]
 exact this
theorem lstatus {w : World} {c : Nat} {s : CS} (h : LAt w c s) (hf : ∀ i, U32 (s.f i)) (nm : List UInt8) (hn : nm = [99, 115, 114, 114, 119] ∨ nm = [99, 115, 114, 114, 115] ∨ nm = [99, 115, 114, 114, 99]) (d a b : Nat) (hd : d < 32) (ha : a < 32) (m x : Int) (hm : 0 ≤ m ∧ m < 4096) (hr : z2b m = 0) (wr : Bool) (hwr : wr = true ↔ (nm = [99, 115, 114, 114, 119] ∨ a ≠ 0)) (F : Nat → Int) (hF : F = if wr then z2o s.f m (z4v nm (z4e s.f m s.t (dueV s)) (s.f a)) else s.f) (bad : Bool) (hbad : bad = (wr && z2y m != 0)) :
    Calls Tryz.prog 60 #[.pointer (some ⟨c,0,none⟩),.agg #[.string ⟨nm.toArray⟩,.int .i64 d,.int .i64 a,.int .i64 b,.int .i32 m],.int .u32 x] w fun e w'=>StatRes bad (setL { s with f:=F } d (z4e s.f m s.t (dueV s))) x w c s e w':=by
  have HA:Hid _:=ha
  have HD:Hid _:=hd
  have ha0:(0:Int)≤(a:Int):=by omega
  have ha1:(a:Int)<32:=by omega
  have hmo:Tryz.prog.follows .mixedOrders=true:=by kernel_rfl
  have HU:Hid (∀ old,U32 old→U32 (z4v nm old (s.f a))):=fun old _=>written_u nm (hf a)
  have HUO:Hid (U32 (z4e s.f m s.t (dueV s))):=readN_u hf m s.t (dueV s)
  have HWF:Hid (∀ x,U32 x→∀ w,Calls Tryz.prog 78 #[.agg (z0c s.f s.u),.int .i64 m,.int .u32 x] w fun e w'=>e=.returned (.tuple #[.agg (z0c (z2o s.f m x) s.u),.int .i64 (z2y m)])∧Below w.heap.size w w'):=fun x hx w=>nWrite s.f s.u hf m x hx w
  have CWW:Hid _:=fun o y w=>cwritten nm hn o y w
  obtain⟨fs,hfs⟩:=z3f
  have HS:Hid _:=hfs
  have wm:IntKind.i64.wrap m=m:=i64_id (by omega) (by omega)
  have CR:Hid _:=fun w=>nRead s.f s.u hf m s.t (dueV s) w
  have HC:Hid _:=h
  have HBAD:Hid _:=hbad
  have HFF:Hid _:=hF
  have HWR:Hid _:=hwr
  clear h hfs hbad hF hwr hn hd ha
  go_enter Tryz.func60,Tryz.ntmps60
  go_wp2_with fail
  have I1:=z0g w (.cells #[.string ⟨nm.toArray⟩,.int .i64 d,.int .i64 a,.int .i64 b,.int .i32 m] 24)
  have H1:Hid (InsIn (w.alloc (.cells #[.string ⟨nm.toArray⟩,.int .i64 d,.int .i64 a,.int .i64 b,.int .i32 m] 24)) c w.heap.size s nm d a b m):=⟨HC.out.below ((Below.refl _ _).alloc (Nat.le_refl _) _),I1⟩
  have G1:Hid (Below w.heap.size w (w.alloc (.cells #[.string ⟨nm.toArray⟩,.int .i64 d,.int .i64 a,.int .i64 b,.int .i32 m] 24))):=(Below.refl _ _).alloc (Nat.le_refl _) _
  have hbi:¬w.heap.size=c:=by have:=HC.out.lt;omega
  generalize w.alloc (.cells #[.string ⟨nm.toArray⟩,.int .i64 d,.int .i64 a,.int .i64 b,.int .i32 m] 24)=W1 at *
  generalize hws:w.heap.size=bi at *
  clear I1
  refine wp_region_noPanic ?_
  refine wp_region_held_drew (S:=fun w'=>InsIn w' c bi s nm d a b m) (by kernel_rfl) (H1.out.below (Below.refl _ _).drew) (fun hHeld=>?_)
  refine z0n 0 (some 11) (v:=?_) rfl rfl (by kernel_rfl) (by kernel_rfl) (by kernel_rfl) (fun _ _ _ h=>h) (Or.inl ⟨by rfl,?_⟩) (by assumption) ?_
  rotate_left
  · intro w hSw
    clear hSw
    go_simp
    try with_reducible rfl
  simp only[Act.put,List.setIfInBounds_toArray,List.set_cons_zero,List.set_cons_succ]
  refine z0n 1 (some 12) (v:=?_) rfl rfl (by kernel_rfl) (by kernel_rfl) (by kernel_rfl) (fun _ _ _ h=>h) (Or.inl ⟨by rfl,?_⟩) (by assumption) ?_
  rotate_left
  · intro w hSw
    clear hSw
    go_simp
    try with_reducible rfl
  simp only[Act.put,List.setIfInBounds_toArray,List.set_cons_zero,List.set_cons_succ]
  refine z0n 2 (some 13) (v:=?_) rfl rfl (by kernel_rfl) (by kernel_rfl) (by kernel_rfl) (fun _ _ _ h=>h) (Or.inl ⟨by rfl,?_⟩) (by assumption) ?_
  rotate_left
  · intro w hSw
    clear hSw
    go_simp
    try with_reducible rfl
  simp only[Act.put,List.setIfInBounds_toArray,List.set_cons_zero,List.set_cons_succ]
  refine z0n 3 (some 14) (v:=.agg (z0c s.f s.u)) rfl rfl (by kernel_rfl) (by kernel_rfl) (by kernel_rfl) (fun _ _ _ h=>h) (yields_regs (by rfl) (.tmp 13) rfl c rfl _ _ (fun w' hS=>hS.core.regs)) (by assumption) ?_
  simp only[Act.put,List.setIfInBounds_toArray,List.set_cons_zero,List.set_cons_succ]
  refine z0n 4 (some 15) (v:=?_) rfl rfl (by kernel_rfl) (by kernel_rfl) (by kernel_rfl) (fun _ _ _ h=>h) (Or.inl ⟨by rfl,?_⟩) (by assumption) ?_
  rotate_left
  · intro w hSw
    clear hSw
    go_simp
    try with_reducible rfl
  simp only[Act.put,List.setIfInBounds_toArray,List.set_cons_zero,List.set_cons_succ]
  refine z0n 5 (some 16) (v:=?_) rfl rfl (by kernel_rfl) (by kernel_rfl) (by kernel_rfl) (fun _ _ _ h=>h) (Or.inl ⟨by rfl,?_⟩) (by assumption) ?_
  rotate_left
  · intro w hSw
    have q4:=(z0a hSw.ins).1 4 (.int .i32 m) rfl
    clear hSw
    go_simp
    try with_reducible rfl
  simp only[Act.put,List.setIfInBounds_toArray,List.set_cons_zero,List.set_cons_succ]
  refine z0n 6 (some 17) (v:=?_) rfl rfl (by kernel_rfl) (by kernel_rfl) (by kernel_rfl) (fun _ _ _ h=>h) (Or.inl ⟨by rfl,?_⟩) (by assumption) ?_
  rotate_left
  · intro w hSw
    clear hSw
    go_simp
    try with_reducible rfl
  simp only[Act.put,List.setIfInBounds_toArray,List.set_cons_zero,List.set_cons_succ]
  refine z0n 7 (some 18) (v:=?_) rfl rfl (by kernel_rfl) (by kernel_rfl) (by kernel_rfl) (fun _ _ _ h=>h) (Or.inl ⟨by rfl,?_⟩) (by assumption) ?_
  rotate_left
  · intro w hSw
    clear hSw
    go_simp
    try with_reducible rfl
  simp only[Act.put,List.setIfInBounds_toArray,List.set_cons_zero,List.set_cons_succ]
  refine z0n 8 (some 19) (v:=?_) rfl rfl (by kernel_rfl) (by kernel_rfl) (by kernel_rfl) (fun _ _ _ h=>h) (Or.inl ⟨by rfl,?_⟩) (by assumption) ?_
  rotate_left
  · intro w hSw
    clear hSw
    go_simp
    try with_reducible rfl
  simp only[Act.put,List.setIfInBounds_toArray,List.set_cons_zero,List.set_cons_succ]
  refine z0n 9 (some 20) (v:=?_) rfl rfl (by kernel_rfl) (by kernel_rfl) (by kernel_rfl) (fun _ _ _ h=>h) (Or.inl ⟨by rfl,?_⟩) (by assumption) ?_
  rotate_left
  · intro w hSw
    clear hSw
    go_simp
    try with_reducible rfl
  simp only[Act.put,List.setIfInBounds_toArray,List.set_cons_zero,List.set_cons_succ]
  refine z0n 10 (some 21) (v:=?_) rfl rfl (by kernel_rfl) (by kernel_rfl) (by kernel_rfl) (fun _ _ _ h=>h) (Or.inl ⟨by rfl,?_⟩) (by assumption) ?_
  rotate_left
  · intro w hSw
    have q58:w.cell? ⟨c,58,none⟩=some (.int .i64 s.t):=hSw.core.cell 58 (by decide)
    clear hSw
    go_simp
    try with_reducible rfl
  simp only[Act.put,List.setIfInBounds_toArray,List.set_cons_zero,List.set_cons_succ]
  refine z0n 11 (some 22) (v:=?_) rfl rfl (by kernel_rfl) (by kernel_rfl) (by kernel_rfl) (fun _ _ _ h=>h) (Or.inl ⟨by rfl,?_⟩) (by assumption) ?_
  rotate_left
  · intro w hSw
    clear hSw
    go_simp
    try with_reducible rfl
  simp only[Act.put,List.setIfInBounds_toArray,List.set_cons_zero,List.set_cons_succ]
  refine z5q 12 (some 23) 39 #[.pointer (some ⟨c,0,none⟩)] rfl rfl (by rfl) (by kernel_rfl) (by kernel_rfl) (Calls.mono (ldue hHeld.core) ?_)
  rintro e w2 ⟨rfl,b2⟩
  refine⟨_,rfl,hHeld.below b2,fun hHeld=>?_⟩
  have G2:Hid (Below bi w w2):=by have:=z0e (by rw[hws];exact G1.out.trans (Below.refl _ _).drew) b2;rw[hws] at this;exact this
  clear b2
  simp only[Act.put,List.setIfInBounds_toArray,List.set_cons_zero,List.set_cons_succ]
  refine z5q 13 (some 24) 77 #[.agg (z0c s.f s.u),.int .i64 m,.int .i64 s.t,.bool (dueV s)] rfl rfl (by rfl) (by kernel_rfl) (by kernel_rfl) (Calls.mono (CR.out _) ?_)
  rintro e w3 ⟨rfl,b3⟩
  refine⟨_,rfl,hHeld.below b3,fun hHeld=>?_⟩
  have G3:Hid (Below bi w w3):=by have:=z0e (by rw[hws];exact G2.out) b3;rw[hws] at this;exact this
  clear b3 G1 G2 H1 CR
  simp only[Act.put,List.setIfInBounds_toArray,List.set_cons_zero,List.set_cons_succ]
  refine z0n 14 (some 10) (v:=?_) rfl rfl (by kernel_rfl) (by kernel_rfl) (by kernel_rfl) (fun _ _ _ h=>h) (Or.inl ⟨by rfl,?_⟩) (by assumption) ?_
  rotate_left
  · intro w hSw
    clear hSw
    go_simp
    try with_reducible rfl
  simp only[Act.put,List.setIfInBounds_toArray,List.set_cons_zero,List.set_cons_succ]
  refine z0n 15 (some 25) (v:=?_) rfl rfl (by kernel_rfl) (by kernel_rfl) (by kernel_rfl) (fun _ _ _ h=>h) (Or.inl ⟨by rfl,?_⟩) (by assumption) ?_
  rotate_left
  · intro w hSw
    clear hSw
    go_simp
    try with_reducible rfl
  simp only[Act.put,List.setIfInBounds_toArray,List.set_cons_zero,List.set_cons_succ]
  refine z0n 16 (some 26) (v:=?_) rfl rfl (by kernel_rfl) (by kernel_rfl) (by kernel_rfl) (fun _ _ _ h=>h) (Or.inl ⟨by rfl,?_⟩) (by assumption) ?_
  rotate_left
  · intro w hSw
    clear hSw
    go_simp
    try with_reducible rfl
  simp only[Act.put,List.setIfInBounds_toArray,List.set_cons_zero,List.set_cons_succ]
  refine z0n 17 (some 7) (v:=?_) rfl rfl (by kernel_rfl) (by kernel_rfl) (by kernel_rfl) (fun _ _ _ h=>h) (Or.inl ⟨by rfl,?_⟩) (by assumption) ?_
  rotate_left
  · intro w hSw
    clear hSw
    go_simp
    try with_reducible rfl
  simp only[Act.put,List.setIfInBounds_toArray,List.set_cons_zero,List.set_cons_succ]
  refine z0n 18 (some 8) (v:=?_) rfl rfl (by kernel_rfl) (by kernel_rfl) (by kernel_rfl) (fun _ _ _ h=>h) (Or.inl ⟨by rfl,?_⟩) (by assumption) ?_
  rotate_left
  · intro w hSw
    clear hSw
    go_simp
    try with_reducible rfl
  simp only[Act.put,List.setIfInBounds_toArray,List.set_cons_zero,List.set_cons_succ]
  refine wpAnyH_done (by kernel_rfl) ?_ _
  refine NoPanic.normal ?_
  have H3:Hid _:=hHeld
  have HW3:Hid (bi<w3.heap.size):=(z0a hHeld.ins).2.2
  clear hHeld
  cases wr with
  | true=>
    have hW:=HWR.out.1 rfl
    have hF:F=z2o s.f m (z4v nm (z4e s.f m s.t (dueV s)) (s.f a)):=by rw[HFF.out];rfl
    have hB:bad=(z2y m != 0):=by rw[HBAD.out];rfl
    have CWT:Hid (∀ w,Calls Tryz.prog 78 #[.agg (z0c s.f s.u),.int .i64 m,.int .u32 (z4v nm (z4e s.f m s.t (dueV s)) (s.f a))] w fun e w'=>e=.returned (.tuple #[.agg (z0c F s.u),.int .i64 (z2y m)])∧Below w.heap.size w w'):=fun w=>by
      have:=HWF.out _ (HU.out _ HUO.out) w
      rw[← hF] at this
      exact this
    have CWR:Hid _:=CWW.out (z4e s.f m s.t (dueV s)) (s.f a)
    have htest:(nm==[99,115,114,114,119])=true∨((nm==[99,115,114,114,119])=false∧((a:Int)==0)=false):=by
      by_cases h1:nm=[99,115,114,114,119]
      · exact Or.inl (beq_iff_eq.2 h1)
      · refine Or.inr ⟨beq_eq_false_iff_ne.2 h1,?_⟩
        rw[beq_eq_false_iff_ne]
        rcases hW with q | q
        · exact absurd q h1
        · omega
    generalize hold:z4e s.f m s.t (dueV s)=old at *
    have HOLD:Hid _:=hold
    generalize z4v nm old (s.f a)=wv at *
    have HB:Hid _:=hB
    clear hW hF hB HWF HU HUO CWW hold HBAD HFF HWR
    generalize z2y m=E at *
    rcases htest with bq | ⟨bq,az⟩
    all_goals
      go_wp2_with (first | (refine z0w (by rfl) 37 (.tmp 34) rfl c 1 rfl (z0c s.f s.u) _ H3.out.core.regs HS.out rfl (by rw[z0b];exact z0o) ?_) | (refine z4p rfl 37 (.tmp 9) (.tmp 35) rfl rfl (z0c _ _) rfl 37 _ (by rw[z0b];exact z0o) (by rw[z8d,z0b,z0b]) (z0s _ _) ?_;intro W4 hL4 b4;have H4:Hid _:=H3.out.below b4;have i0:=(z0a H4.out.ins).1 0 (.string ⟨nm.toArray⟩) rfl;have i2:=(z0a H4.out.ins).1 2 (.int .i64 a) rfl))
      generalize hlr:w3.heap.size=lr at *
      have hlc:lr≠c:=by have:=H3.out.core.lt;omega
      have H5:Hid (InsRow W4 c bi lr s nm d a b m):=⟨H4.out.core,H4.out.ins,hL4⟩
      have G5:Hid (Below bi w W4):=by
        have:=z0e (by rw[hws];exact G3.out) (by rw[hlr];exact b4)
        rw[hws] at this
        exact this
      clear H4 hL4 b4 i0 i2 H3 G3
      refine wp_region_phase 20 (fun q w'=>q=false→InsRow w' c bi lr s nm d a b m) hmo (fun _=>H5.out.below (Below.refl _ _).drew) (fun hHeld=>?_)
      have hHeld:=hHeld rfl
      refine z2e 0 (some 45) (v:=.agg (z0c s.f s.u)) rfl rfl (by kernel_rfl) (by kernel_rfl) (by kernel_rfl) rfl (by kernel_rfl) (fun _ _ _ h=>h) (by kernel_rfl) (yields_row57 (by rfl) (.tmp 9) rfl lr rfl _ _ (fun w' hS=>row57_range (hS rfl).row)) (fun _=>hHeld) ?_
      simp only[Act.put,List.setIfInBounds_toArray,List.set_cons_zero,List.set_cons_succ]
      refine z2e 1 (some 46) (v:=?_) rfl rfl (by kernel_rfl) (by kernel_rfl) (by kernel_rfl) rfl (by kernel_rfl) (fun _ _ _ h=>h) (by kernel_rfl) (Or.inl ⟨by rfl,?_⟩) (fun _=>hHeld) ?_
      rotate_left
      · intro w hSw
        clear hSw
        go_simp
        try with_reducible rfl
      simp only[Act.put,List.setIfInBounds_toArray,List.set_cons_zero,List.set_cons_succ]
      refine z2e 2 (some 47) (v:=?_) rfl rfl (by kernel_rfl) (by kernel_rfl) (by kernel_rfl) rfl (by kernel_rfl) (fun _ _ _ h=>h) (by kernel_rfl) (Or.inl ⟨by rfl,?_⟩) (fun _=>hHeld) ?_
      rotate_left
      · intro w hSw
        have q4:=(z0a (hSw rfl).ins).1 4 (.int .i32 m) rfl
        clear hSw
        go_simp
        try with_reducible rfl
      simp only[Act.put,List.setIfInBounds_toArray,List.set_cons_zero,List.set_cons_succ]
      refine z2e 3 (some 48) (v:=?_) rfl rfl (by kernel_rfl) (by kernel_rfl) (by kernel_rfl) rfl (by kernel_rfl) (fun _ _ _ h=>h) (by kernel_rfl) (Or.inl ⟨by rfl,?_⟩) (fun _=>hHeld) ?_
      rotate_left
      · intro w hSw
        clear hSw
        go_simp
        try with_reducible rfl
      simp only[Act.put,List.setIfInBounds_toArray,List.set_cons_zero,List.set_cons_succ]
      refine z2e 4 (some 49) (v:=?_) rfl rfl (by kernel_rfl) (by kernel_rfl) (by kernel_rfl) rfl (by kernel_rfl) (fun _ _ _ h=>h) (by kernel_rfl) (Or.inl ⟨by rfl,?_⟩) (fun _=>hHeld) ?_
      rotate_left
      · intro w hSw
        clear hSw
        go_simp
        try with_reducible rfl
      simp only[Act.put,List.setIfInBounds_toArray,List.set_cons_zero,List.set_cons_succ]
      refine z2e 5 (some 50) (v:=?_) rfl rfl (by kernel_rfl) (by kernel_rfl) (by kernel_rfl) rfl (by kernel_rfl) (fun _ _ _ h=>h) (by kernel_rfl) (Or.inl ⟨by rfl,?_⟩) (fun _=>hHeld) ?_
      rotate_left
      · intro w hSw
        have q0:=(z0a (hSw rfl).ins).1 0 (.string ⟨nm.toArray⟩) rfl
        clear hSw
        go_simp
        try with_reducible rfl
      simp only[Act.put,List.setIfInBounds_toArray,List.set_cons_zero,List.set_cons_succ]
      refine z2e 6 (some 51) (v:=?_) rfl rfl (by kernel_rfl) (by kernel_rfl) (by kernel_rfl) rfl (by kernel_rfl) (fun _ _ _ h=>h) (by kernel_rfl) (Or.inl ⟨by rfl,?_⟩) (fun _=>hHeld) ?_
      rotate_left
      · intro w hSw
        clear hSw
        go_simp
        try with_reducible rfl
      simp only[Act.put,List.setIfInBounds_toArray,List.set_cons_zero,List.set_cons_succ]
      refine z2e 7 (some 52) (v:=?_) rfl rfl (by kernel_rfl) (by kernel_rfl) (by kernel_rfl) rfl (by kernel_rfl) (fun _ _ _ h=>h) (by kernel_rfl) (Or.inl ⟨by rfl,?_⟩) (fun _=>hHeld) ?_
      rotate_left
      · intro w hSw
        clear hSw
        go_simp
        try with_reducible rfl
      simp only[Act.put,List.setIfInBounds_toArray,List.set_cons_zero,List.set_cons_succ]
      refine z2e 8 (some 53) (v:=?_) rfl rfl (by kernel_rfl) (by kernel_rfl) (by kernel_rfl) rfl (by kernel_rfl) (fun _ _ _ h=>h) (by kernel_rfl) (Or.inl ⟨by rfl,?_⟩) (fun _=>hHeld) ?_
      rotate_left
      · intro w hSw
        clear hSw
        go_simp
        try with_reducible rfl
      simp only[Act.put,List.setIfInBounds_toArray,List.set_cons_zero,List.set_cons_succ]
      refine z2e 9 (some 54) (v:=?_) rfl rfl (by kernel_rfl) (by kernel_rfl) (by kernel_rfl) rfl (by kernel_rfl) (fun _ _ _ h=>h) (by kernel_rfl) (Or.inl ⟨by rfl,?_⟩) (fun _=>hHeld) ?_
      rotate_left
      · intro w hSw
        have q2:=(z0a (hSw rfl).ins).1 2 (.int .i64 a) rfl
        clear hSw
        go_simp
        try with_reducible rfl
      simp only[Act.put,List.setIfInBounds_toArray,List.set_cons_zero,List.set_cons_succ]
      refine z2e 10 (some 55) (v:=?_) rfl rfl (by kernel_rfl) (by kernel_rfl) (by kernel_rfl) rfl (by kernel_rfl) (fun _ _ _ h=>h) (by kernel_rfl) (Or.inl ⟨by rfl,?_⟩) (fun _=>hHeld) ?_
      rotate_left
      · intro w hSw
        clear hSw
        go_simp
        try with_reducible rfl
      simp only[Act.put,List.setIfInBounds_toArray,List.set_cons_zero,List.set_cons_succ]
      refine z2e 11 (some 56) (v:=?_) rfl rfl (by kernel_rfl) (by kernel_rfl) (by kernel_rfl) rfl (by kernel_rfl) (fun _ _ _ h=>h) (by kernel_rfl) (Or.inl ⟨by rfl,?_⟩) (fun _=>hHeld) ?_
      rotate_left
      · intro w hSw
        clear hSw
        go_simp
        try with_reducible rfl
      simp only[Act.put,List.setIfInBounds_toArray,List.set_cons_zero,List.set_cons_succ]
      refine z2e 12 (some 57) (v:=?_) rfl rfl (by kernel_rfl) (by kernel_rfl) (by kernel_rfl) rfl (by kernel_rfl) (fun _ _ _ h=>h) (by kernel_rfl) (Or.inl ⟨by rfl,?_⟩) (fun _=>hHeld) ?_
      rotate_left
      · intro w hSw
        clear hSw
        go_simp
        try with_reducible rfl
      simp only[Act.put,List.setIfInBounds_toArray,List.set_cons_zero,List.set_cons_succ]
      refine z2e 13 (some 58) (v:=?_) rfl rfl (by kernel_rfl) (by kernel_rfl) (by kernel_rfl) rfl (by kernel_rfl) (fun _ _ _ h=>h) (by kernel_rfl) (Or.inl ⟨by rfl,?_⟩) (fun _=>hHeld) ?_
      rotate_left
      · intro w hSw
        clear hSw
        go_simp
        try with_reducible rfl
      simp only[Act.put,List.setIfInBounds_toArray,List.set_cons_zero,List.set_cons_succ]
      refine z2e 14 (some 59) (v:=?_) rfl rfl (by kernel_rfl) (by kernel_rfl) (by kernel_rfl) rfl (by kernel_rfl) (fun _ _ _ h=>h) (by kernel_rfl) (Or.inl ⟨by rfl,?_⟩) (fun _=>hHeld) ?_
      rotate_left
      · intro w hSw
        have qa:=(hSw rfl).core.x a HA.out
        clear hSw
        go_simp
        try with_reducible rfl
      simp only[Act.put,List.setIfInBounds_toArray,List.set_cons_zero,List.set_cons_succ]
      refine pcall 15 (some 60) 79 #[.string ⟨nm.toArray⟩,.int .u32 old,.int .u32 (s.f a)] rfl rfl (by rfl) (by kernel_rfl) (by kernel_rfl) (Calls.mono (CWR.out _) ?_)
      rintro e wq ⟨rfl,hwq⟩
      rw[hwq]
      clear hwq wq
      refine⟨_,rfl,fun _=>hHeld,?_⟩
      simp only[Act.put,List.setIfInBounds_toArray,List.set_cons_zero,List.set_cons_succ]
      refine pcall 16 (some 61) 78 #[.agg (z0c s.f s.u),.int .i64 m,.int .u32 wv] rfl rfl (by rfl) (by kernel_rfl) (by kernel_rfl) (Calls.mono (CWT.out _) ?_)
      rintro e w6 ⟨rfl,b6⟩
      have G6:Hid (Below bi w w6):=by have:=z0e (by rw[hws];exact G5.out.trans (Below.refl _ _).drew) b6;rw[hws] at this;exact this
      have hHeld:=hHeld.below b6
      clear b6
      refine⟨_,rfl,fun _=>hHeld,?_⟩
      simp only[Act.put,List.setIfInBounds_toArray,List.set_cons_zero,List.set_cons_succ]
      refine z8y 17 (some 44) (v:=?_) rfl rfl (by kernel_rfl) (by kernel_rfl) (by kernel_rfl) rfl (fun _ _ _ h=>h) (Or.inl ⟨by rfl,?_⟩) (fun _=>hHeld) ?_
      rotate_left
      · intro w hSw
        clear hSw
        go_simp
        try with_reducible rfl
      simp only[Act.put,List.setIfInBounds_toArray,List.set_cons_zero,List.set_cons_succ]
      refine z8y 18 (some 62) (v:=?_) rfl rfl (by kernel_rfl) (by kernel_rfl) (by kernel_rfl) rfl (fun _ _ _ h=>h) (Or.inl ⟨by rfl,?_⟩) (fun _=>hHeld) ?_
      rotate_left
      · intro w hSw
        clear hSw
        go_simp
        try with_reducible rfl
      simp only[Act.put,List.setIfInBounds_toArray,List.set_cons_zero,List.set_cons_succ]
      refine z8y 19 (some 63) (v:=?_) rfl rfl (by kernel_rfl) (by kernel_rfl) (by kernel_rfl) rfl (fun _ _ _ h=>h) (Or.inl ⟨by rfl,?_⟩) (fun _=>hHeld) ?_
      rotate_left
      · intro w hSw
        clear hSw
        go_simp
        try with_reducible rfl
      simp only[Act.put,List.setIfInBounds_toArray,List.set_cons_zero,List.set_cons_succ]
      refine pskip 20 none rfl rfl (by rfl) (by kernel_rfl) (run_store_row 37 (.tmp 9) (.tmp 62) rfl lr (by kernel_rfl) (z0c F s.u) (by kernel_rfl) _ _ hHeld.row (by rw[z0b];exact z0o) (by rw[z0b,z0b]) (z0s _ _)) (fun h=>(by cases h)) ?_
      have K6:Hid (LAt (w6.setRow lr (z0c F s.u)) c s):=⟨(setRow_other _ _ _ _ (Ne.symm hlc)).trans hHeld.core.is⟩
      have J6:Hid ((w6.setRow lr (z0c F s.u)).heap[bi]?=some (.cells #[.string ⟨nm.toArray⟩,.int .i64 d,.int .i64 a,.int .i64 b,.int .i32 m] 24)):=(setRow_other _ _ _ _ (by have:=HW3.out;omega)).trans hHeld.ins
      have hlw:w.heap.size≤lr:=by rw[hws];exact Nat.le_of_lt HW3.out
      have M6 : Hid (Chg (· = c) w (w6.setRow lr (z0c F s.u))) := by
        have G7 : Chg (· = c) w w6 := Chg.of (by rw [hws]; exact G6.out)
        exact⟨G7.os,G7.tape,G7.output,(by simpa using G7.size),fun k hk ho=>(setRow_other _ _ _ _ (by omega)).trans (G7.block k hk ho)⟩
      have L7:(w6.setRow lr (z0c F s.u)).heap[lr]?=some (.cells (z0c F s.u) 37):=setRow_heap _ _ _ _ _ _ hHeld.row
      clear hHeld G6 G5 CWR CWT
      generalize w6.setRow lr (z0c F s.u)=W6 at *
      refine z8y 21 (some 8) (v:=?_) rfl rfl (by kernel_rfl) (by kernel_rfl) (by kernel_rfl) rfl (fun _ _ _ h=>h) (Or.inl ⟨by rfl,?_⟩) (fun h=>(by cases h)) ?_
      rotate_left
      · intro w hSw
        clear hSw
        go_simp
        try with_reducible rfl
      simp only[Act.put,List.setIfInBounds_toArray,List.set_cons_zero,List.set_cons_succ]
      refine pdone (by kernel_rfl) ?_ _
      refine NoPanic.normal ?_

      by_cases hE:E=0
      · subst hE
        have HB2:Hid (bad=false):=HB.out
        clear HB
        go_wp2_with (first | (have Lx := L7; refine z7d (by rfl) 37 (.tmp 9) rfl lr rfl 37 (z0c F s.u) _ Lx HS.out rfl (by rw [z0b]; exact z0o) ?_; simp only [Act.put, List.setIfInBounds_toArray, List.set_cons_zero, List.set_cons_succ]; refine z3b ?_ (some 71) rfl (by rfl) ?_ ?_; rotate_left; (go_simp; try with_reducible rfl); simp only [Act.put, List.setIfInBounds_toArray, List.set_cons_zero, List.set_cons_succ]; refine z3b ?_ (some 72) rfl (by rfl) ?_ ?_; rotate_left; (go_simp; try with_reducible rfl); simp only [Act.put, List.setIfInBounds_toArray, List.set_cons_zero, List.set_cons_succ]; refine z1v rfl 37 (.tmp 72) (.tmp 70) rfl c 1 (z0c F s.u) rfl rfl (by rw [z0b]; exact K6.out.there) (by rw [z0b]; exact z0o) (z0s _ _) ?_; intro W7 e7; have H7 : Hid (LAt W7 c { s with f := F }) := (by rw [e7]; exact K6.out.regsIn F s.u); have M7 : Hid (Chg (· = c) w W7) := (by rw [e7]; exact M6.out.owns _); have i1 : W7.cell? ⟨bi, 1, none⟩ = some (.int .i64 d) := (by rw [e7]; exact (z0a ((z1n _ _ _ hbi).trans J6.out)).1 1 _ rfl); clear L7 Lx e7))
        refine (lset H7.out d HD.out _).mono ?_
        rintro e w8 ⟨rfl,h8,g8⟩
        have H8:Hid _:=h8
        have M8:Hid _:=M7.out.trans g8
        clear h8 g8
        go_wp2
        go_ret
        rw[HB2.out,HOLD.out]
        exact⟨fun _=>⟨rfl,H8.out⟩,fun h=>(by cases h),M8.out⟩
      · have hE':(E==0)=false:=beq_eq_false_iff_ne.2 hE
        have HB2:Hid (bad=true):=by rw[HB.out];show (E != 0)=true;simp[hE]
        clear HB
        go_wp2
        go_ret
        rw[HB2.out]
        exact⟨fun h=>(by cases h),fun _=>⟨K6.out.below ((Below.refl _ _).alloc (Nat.le_refl _) _),_,rfl,M6.out.size,⟨z0g _ _⟩⟩,M6.out.step ((Below.refl _ _).alloc (Nat.le_refl _) _)⟩
  | false=>
    have hW:¬(nm=[99,115,114,114,119]∨a≠0):=fun h=>(by have q:=HWR.out.2 h;cases q)
    have hF:F=s.f:=by rw[HFF.out];rfl
    have HB2:Hid (bad=false):=by rw[HBAD.out];rfl
    have bq:(nm==[99,115,114,114,119])=false:=beq_eq_false_iff_ne.2 (fun e=>hW (Or.inl e))
    have az:((a:Int)==0)=true:=by
      rw[beq_iff_eq]
      by_cases q:a=0
      · omega
      · exact absurd (Or.inr q) hW
    generalize hold:z4e s.f m s.t (dueV s)=old at *
    have HOLD:Hid _:=hold
    subst hF
    clear hW hold HWF HU HUO CWW HBAD HFF HWR
    go_wp2_with (first | (refine z0w (by rfl) 37 (.tmp 34) rfl c 1 rfl (z0c s.f s.u) _ H3.out.core.regs HS.out rfl (by rw [z0b]; exact z0o) ?_) | (refine z4p rfl 37 (.tmp 9) (.tmp 35) rfl rfl (z0c _ _) rfl 37 _ (by rw [z0b]; exact z0o) (by rw [z8d, z0b, z0b]) (z0s _ _) ?_; intro W4 hL4 b4; have H4 : Hid _ := H3.out.below b4; have i0 := (z0a H4.out.ins).1 0 (.string ⟨nm.toArray⟩) rfl; have i2 := (z0a H4.out.ins).1 2 (.int .i64 a) rfl) | (have Lx := hL4; refine z7d (by rfl) 37 (.tmp 9) rfl w3.heap.size rfl 37 (z0c s.f s.u) _ Lx HS.out rfl (by rw [z0b]; exact z0o) ?_; simp only [Act.put, List.setIfInBounds_toArray, List.set_cons_zero, List.set_cons_succ]; refine z3b ?_ (some 71) rfl (by rfl) ?_ ?_; rotate_left; (go_simp; try with_reducible rfl); simp only [Act.put, List.setIfInBounds_toArray, List.set_cons_zero, List.set_cons_succ]; refine z3b ?_ (some 72) rfl (by rfl) ?_ ?_; rotate_left; (go_simp; try with_reducible rfl); simp only [Act.put, List.setIfInBounds_toArray, List.set_cons_zero, List.set_cons_succ]; refine z1v rfl 37 (.tmp 72) (.tmp 70) rfl c 1 (z0c s.f s.u) rfl rfl (by rw [z0b]; exact H4.out.core.there) (by rw [z0b]; exact z0o) (z0s _ _) ?_; intro W7 e7; have H7 : Hid (LAt W7 c { s with f := s.f }) := (by rw [e7]; exact H4.out.core.regsIn s.f s.u); have M7 : Hid (Chg (· = c) w W7) := (by rw [e7]; exact ((Chg.of (by rw [hws]; exact G3.out)).step b4).owns _); have i1 : W7.cell? ⟨bi, 1, none⟩ = some (.int .i64 d) := (by rw [e7]; exact (z0a ((z1n _ _ _ hbi).trans H4.out.ins)).1 1 _ rfl); clear hL4 Lx e7))
    refine (lset H7.out d HD.out _).mono ?_
    rintro e w8 ⟨rfl,h8,g8⟩
    have H8:Hid _:=h8
    have M8:Hid _:=M7.out.trans g8
    clear h8 g8
    go_wp2
    go_ret
    rw[HB2.out,HOLD.out]
    exact⟨fun _=>⟨rfl,H8.out⟩,fun h=>(by cases h),M8.out⟩
end Go.Proofs.YtilcoimelnpkeaaGreatDoor
