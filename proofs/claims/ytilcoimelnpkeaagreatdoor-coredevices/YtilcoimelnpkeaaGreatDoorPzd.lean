/-
  Contracts of functions that the statement reaches, and what they are made of, callees first.
-/
import Derived.Laws.BitsAllLaws
import Derived.RowKit
import Derived.Test.YtilcoimelnpkeaaGreatDoorPza
set_option maxRecDepth 100000
set_option maxHeartbeats 8000000
namespace Go.Proofs.YtilcoimelnpkeaaGreatDoor
open Go.RowKit
structure MIns where
 op:List UInt8
 d:Int
 a:Int
 b:Int
 m:Int
structure z5f where
 k:Int
 o:Int
 g:Int
 f:Int
def noForm:z5f:=⟨0,0,0,0⟩
def z3w:List (List UInt8 × z5f):=
  [([97,100,100],⟨82,51,0,0⟩),
   ([115,117,98],⟨82,51,0,32⟩),
   ([115,108,108],⟨82,51,1,0⟩),
   ([115,108,116],⟨82,51,2,0⟩),
   ([115,108,116,117],⟨82,51,3,0⟩),
   ([120,111,114],⟨82,51,4,0⟩),
   ([115,114,108],⟨82,51,5,0⟩),
   ([115,114,97],⟨82,51,5,32⟩),
   ([111,114],⟨82,51,6,0⟩),
   ([97,110,100],⟨82,51,7,0⟩),
   ([109,117,108],⟨82,51,0,1⟩),
   ([109,117,108,104],⟨82,51,1,1⟩),
   ([109,117,108,104,115,117],⟨82,51,2,1⟩),
   ([109,117,108,104,117],⟨82,51,3,1⟩),
   ([100,105,118],⟨82,51,4,1⟩),
   ([100,105,118,117],⟨82,51,5,1⟩),
   ([114,101,109],⟨82,51,6,1⟩),
   ([114,101,109,117],⟨82,51,7,1⟩),
   ([97,100,100,105],⟨73,19,0,0⟩),
   ([115,108,116,105],⟨73,19,2,0⟩),
   ([115,108,116,105,117],⟨73,19,3,0⟩),
   ([120,111,114,105],⟨73,19,4,0⟩),
   ([111,114,105],⟨73,19,6,0⟩),
   ([97,110,100,105],⟨73,19,7,0⟩),
   ([115,108,108,105],⟨83,19,1,0⟩),
   ([115,114,108,105],⟨83,19,5,0⟩),
   ([115,114,97,105],⟨83,19,5,32⟩),
   ([108,98],⟨73,3,0,0⟩),
   ([108,104],⟨73,3,1,0⟩),
   ([108,119],⟨73,3,2,0⟩),
   ([108,98,117],⟨73,3,4,0⟩),
   ([108,104,117],⟨73,3,5,0⟩),
   ([106,97,108,114],⟨73,103,0,0⟩),
   ([115,98],⟨115,35,0,0⟩),
   ([115,104],⟨115,35,1,0⟩),
   ([115,119],⟨115,35,2,0⟩),
   ([98,101,113],⟨66,99,0,0⟩),
   ([98,110,101],⟨66,99,1,0⟩),
   ([98,108,116],⟨66,99,4,0⟩),
   ([98,103,101],⟨66,99,5,0⟩),
   ([98,108,116,117],⟨66,99,6,0⟩),
   ([98,103,101,117],⟨66,99,7,0⟩),
   ([108,117,105],⟨85,55,0,0⟩),
   ([97,117,105,112,99],⟨85,23,0,0⟩),
   ([106,97,108],⟨74,111,0,0⟩),
   ([99,115,114,114,119],⟨67,115,1,0⟩),
   ([99,115,114,114,115],⟨67,115,2,0⟩),
   ([99,115,114,114,99],⟨67,115,3,0⟩),
   ([101,99,97,108,108],⟨87,115,0,0⟩),
   ([101,98,114,101,97,107],⟨87,1048691,0,0⟩),
   ([109,114,101,116],⟨87,807403635,0,0⟩),
   ([119,102,105],⟨87,273678451,0,0⟩),
   ([102,101,110,99,101],⟨87,15,0,0⟩)]
def z0q (s:List UInt8):z5f:=(z3w.lookup s).getD noForm
def regV (n:Int):Bool:=decide (0≤n)&&decide (n<32)
def inV (n lo hi:Int):Bool:=decide (lo≤n)&&decide (n≤hi)
def mayF (k:Int) (d a b m:Int):Bool:=
  regV d&&regV a&&regV b &&
  (if k=82 then decide (m=0)
   else if k=73 then decide (b=0)&&inV m (-2048) 2047
   else if k=83 then decide (b=0)&&inV m 0 31
   else if k=115 then decide (d=0)&&inV m (-2048) 2047
   else if k=66 then decide (d=0)&&inV m (-4096) 4094&&decide (m%2=0)
   else if k=85 then decide (a=0)&&decide (b=0)&&inV m 0 1048575
   else if k=74 then decide (a=0)&&decide (b=0)&&inV m (-1048576) 1048574&&decide (m%2=0)
   else if k=67 then decide (b=0)&&inV m 0 4095
   else if k=87 then decide (d=0)&&decide (a=0)&&decide (b=0)&&decide (m=0)
   else false)
def mayV (i:MIns):Bool:=mayF (z0q i.op).k i.d i.a i.b i.m
def putF (p:z5f) (d a b n:Int):Int:=
 let m:=n%4294967296
 if p.k=82 then p.f*33554432+b*1048576+a*32768+p.g*4096+d*128+p.o
 else if p.k=73∨p.k=67 then m%4096*1048576+a*32768+p.g*4096+d*128+p.o
 else if p.k=83 then p.f*33554432+m*1048576+a*32768+p.g*4096+d*128+p.o
 else if p.k=115 then m/32%128*33554432+b*1048576+a*32768+p.g*4096+m%32*128+p.o
 else if p.k=66 then m/4096%2*2147483648+m/32%64*33554432+b*1048576+a*32768+p.g*4096+m/2%16*256+m/2048%2*128+p.o
 else if p.k=85 then m*4096+d*128+p.o
 else if p.k=74 then m/1048576%2*2147483648+m/2%1024*2097152+m/2048%2*1048576+m/4096%256*4096+d*128+p.o
 else p.o
def putV (i:MIns):Int:=putF (z0q i.op) i.d i.a i.b i.m
def sx (half full n:Int):Int:=if n<half then n else n-full
def z2h (k x:Int):Int:=if k=115∨k=66∨k=87 then 0 else x/128%32
def z2j (k x:Int):Int:=if k=85∨k=74∨k=87 then 0 else x/32768%32
def z2i (k x:Int):Int:=if k=82∨k=115∨k=66 then x/1048576%32 else 0
def z2a (k x:Int):Int:=
 if k=73 then sx 2048 4096 (x/1048576)
 else if k=67 then x/1048576
 else if k=83 then x/1048576%32
 else if k=115 then sx 2048 4096 (x/33554432*32+x/128%32)
 else if k=66 then sx 4096 8192 (x/2147483648*4096+x/128%2*2048+x/33554432%64*32+x/256%16*2)
 else if k=85 then x/4096
 else if k=74 then sx 1048576 2097152 (x/2147483648*1048576+x/4096%256*4096+x/1048576%2*2048+x/2097152%1024*2)
 else 0
def hasF (p:z5f) (x:Int):Prop:=
 if p.k=82∨p.k=83 then x%128=p.o∧x/4096%8=p.g∧x/33554432=p.f
 else if p.k=73∨p.k=115∨p.k=66∨p.k=67 then x%128=p.o∧x/4096%8=p.g
 else if p.k=85∨p.k=74 then x%128=p.o
 else if p.k=87 then x=p.o
 else False
def z4j (p:z5f):Prop:=
 (p.k=82∨p.k=73∨p.k=83∨p.k=115∨p.k=66∨p.k=85∨p.k=74∨p.k=67)∧0≤p.o∧p.o<128∧0≤p.g∧p.g<8∧0≤p.f∧p.f<128∨p.k=87∧0≤p.o∧p.o<4294967296
theorem z1f (n:Int):regV n=true↔0≤n∧n<32:=by unfold regV;simp
theorem z4i (n lo hi:Int):inV n lo hi=true↔lo≤n∧n≤hi:=by unfold inV;simp
theorem z1e (y c:Int) (hc:0<c):0≤y%c∧y%c<c:=⟨Int.emod_nonneg _ (by omega),Int.emod_lt_of_pos _ hc⟩
theorem get_R (f b a g d o:Int) (hf:0≤f∧f<128) (hb:0≤b∧b<32) (ha:0≤a∧a<32) (hg:0≤g∧g<8) (hd:0≤d∧d<32) (ho:0≤o∧o<128) (x:Int)
  (hx:x=f*33554432+b*1048576+a*32768+g*4096+d*128+o) :
  (0≤x∧x<4294967296)∧x%128=o∧x/128%32=d∧x/4096%8=g∧x/32768%32=a∧x/1048576%32=b∧x/33554432=f∧x/1048576=f*32+b:=by
 refine⟨by omega,by omega,by omega,by omega,by omega,by omega,by omega,by omega⟩
theorem get_B (t v b a g w u o:Int) (ht:0≤t∧t<2) (hv:0≤v∧v<64) (hb:0≤b∧b<32) (ha:0≤a∧a<32) (hg:0≤g∧g<8) (hw:0≤w∧w<16) (hu:0≤u∧u<2) (ho:0≤o∧o<128) (x:Int)
  (hx:x=t*2147483648+v*33554432+b*1048576+a*32768+g*4096+w*256+u*128+o) :
  (0≤x∧x<4294967296)∧x%128=o∧x/128%2=u∧x/256%16=w∧x/4096%8=g∧x/32768%32=a∧x/1048576%32=b∧x/33554432%64=v∧x/2147483648=t:=by
 refine⟨by omega,by omega,by omega,by omega,by omega,by omega,by omega,by omega,by omega⟩
theorem get_J (t v u w d o:Int) (ht:0≤t∧t<2) (hv:0≤v∧v<1024) (hu:0≤u∧u<2) (hw:0≤w∧w<256) (hd:0≤d∧d<32) (ho:0≤o∧o<128) (x:Int)
  (hx:x=t*2147483648+v*2097152+u*1048576+w*4096+d*128+o) :
  (0≤x∧x<4294967296)∧x%128=o∧x/128%32=d∧x/4096%256=w∧x/1048576%2=u∧x/2097152%1024=v∧x/2147483648=t:=by
 refine⟨by omega,by omega,by omega,by omega,by omega,by omega,by omega⟩
theorem sx12_back (n:Int) (h0:-2048≤n) (h1:n≤2047):sx 2048 4096 (n%4294967296%4096)=n∧sx 2048 4096 (n%4294967296/32%128*32+n%4294967296%32)=n:=by
 unfold sx
 constructor
 ·split <;> omega
 ·have e:n%4294967296/32%128*32+n%4294967296%32=n%4294967296%4096:=by omega
  rw[e];split <;> omega
theorem sx13_back (n:Int) (h0:-4096≤n) (h1:n≤4094) (h2:n%2=0):sx 4096 8192 (n%4294967296/4096%2*4096+n%4294967296/2048%2*2048+n%4294967296/32%64*32+n%4294967296/2%16*2)=n:=by
 have e:n%4294967296/4096%2*4096+n%4294967296/2048%2*2048+n%4294967296/32%64*32+n%4294967296/2%16*2=n%8192:=by
  have e0:n%4294967296%8192=n%8192:=by omega
  generalize n%4294967296=m at *
  have e1:m/4096%2=m/4096-m/8192*2:=by omega
  have e2:m/2048%2=m/2048-m/4096*2:=by omega
  have e3:m/32%64=m/32-m/2048*64:=by omega
  have e4:m/2%16=m/2-m/32*16:=by omega
  rw[e1,e2,e3,e4];omega
 rw[e];unfold sx;split <;> omega
theorem sx21_back (n:Int) (h0:-1048576≤n) (h1:n≤1048574) (h2:n%2=0):sx 1048576 2097152 (n%4294967296/1048576%2*1048576+n%4294967296/4096%256*4096+n%4294967296/2048%2*2048+n%4294967296/2%1024*2)=n:=by
 have e:n%4294967296/1048576%2*1048576+n%4294967296/4096%256*4096+n%4294967296/2048%2*2048+n%4294967296/2%1024*2=n%2097152:=by
  have e0:n%4294967296%2097152=n%2097152:=by omega
  generalize n%4294967296=m at *
  have e1:m/1048576%2=m/1048576-m/2097152*2:=by omega
  have e2:m/4096%256=m/4096-m/1048576*256:=by omega
  have e3:m/2048%2=m/2048-m/4096*2:=by omega
  have e4:m/2%1024=m/2-m/2048*1024:=by omega
  rw[e1,e2,e3,e4];omega
 rw[e];unfold sx;split <;> omega
theorem put_read (p:z5f) (hp:z4j p) (d a b m:Int) (h:mayF p.k d a b m=true) (x:Int) (hx:x=putF p d a b m) :
  (0≤x∧x<4294967296)∧hasF p x∧z2h p.k x=d∧z2j p.k x=a∧z2i p.k x=b∧z2a p.k x=m:=by
 obtain⟨k,o,g,f⟩:=p
 unfold z4j at hp
 simp only at hp h hx ⊢
 rcases hp with ⟨hk,ho0,ho1,hg0,hg1,hf0,hf1⟩ | ⟨rfl,ho⟩
 ·rcases hk with rfl | rfl | rfl | rfl | rfl | rfl | rfl | rfl
  ·simp[mayF,z1f] at h
   simp[putF] at hx
   obtain⟨⟨⟨hd,ha⟩,hb⟩,rfl⟩:=h
   obtain⟨r0,r1,r2,r3,r4,r5,r6,r7⟩:=get_R f b a g d o ⟨hf0,hf1⟩ hb ha ⟨hg0,hg1⟩ hd ⟨ho0,ho1⟩ x hx
   simp[hasF,z2h,z2j,z2i,z2a,r1,r2,r3,r4,r5,r6]
   exact r0
  ·simp[mayF,z1f,z4i] at h
   obtain⟨⟨⟨hd,ha⟩,hb⟩,rfl,h0,h1⟩:=h
   have hx':x=m%4294967296%4096*1048576+a*32768+g*4096+d*128+o:=hx
   have hq:=z1e (m%4294967296) 4096 (by omega)
   have hm:=(sx12_back m h0 h1).1
   generalize m%4294967296%4096=q at *
   obtain⟨r0,r1,r2,r3,r4,r5,r6,r7⟩:=get_R (q/32) (q%32) a g d o ⟨by omega,by omega⟩ (z1e q 32 (by omega)) ha ⟨hg0,hg1⟩ hd ⟨ho0,ho1⟩ x (by rw[hx'];omega)
   have r8:x/1048576=q:=by rw[r7];omega
   simp[hasF,z2h,z2j,z2i,z2a,r1,r2,r3,r4,r8,hm]
   exact r0
  ·simp[mayF,z1f,z4i] at h
   obtain⟨⟨⟨hd,ha⟩,hb⟩,rfl,h0,h1⟩:=h
   have hx':x=f*33554432+m%4294967296*1048576+a*32768+g*4096+d*128+o:=hx
   rw[show m%4294967296=m by omega] at hx'
   obtain⟨r0,r1,r2,r3,r4,r5,r6,r7⟩:=get_R f m a g d o ⟨hf0,hf1⟩ ⟨h0,by omega⟩ ha ⟨hg0,hg1⟩ hd ⟨ho0,ho1⟩ x hx'
   simp[hasF,z2h,z2j,z2i,z2a,r1,r2,r3,r4,r5,r6]
   exact r0
  ·simp[mayF,z1f,z4i] at h
   obtain⟨⟨⟨hd,ha⟩,hb⟩,rfl,h0,h1⟩:=h
   have hx':x=m%4294967296/32%128*33554432+b*1048576+a*32768+g*4096+m%4294967296%32*128+o:=hx
   have hm:=(sx12_back m h0 h1).2
   have q1:=z1e (m%4294967296/32) 128 (by omega)
   have q2:=z1e (m%4294967296) 32 (by omega)
   generalize m%4294967296/32%128=u at *
   generalize m%4294967296%32=v at *
   obtain⟨r0,r1,r2,r3,r4,r5,r6,r7⟩:=get_R u b a g v o q1 hb ha ⟨hg0,hg1⟩ q2 ⟨ho0,ho1⟩ x hx'
   simp[hasF,z2h,z2j,z2i,z2a,r1,r2,r3,r4,r5,r6,hm]
   exact r0
  ·simp[mayF,z1f,z4i] at h
   obtain⟨⟨⟨hd,ha⟩,hb⟩,⟨rfl,h0,h1⟩,h2⟩:=h
   have hx':x=m%4294967296/4096%2*2147483648+m%4294967296/32%64*33554432+b*1048576+a*32768+g*4096+m%4294967296/2%16*256+m%4294967296/2048%2*128+o:=hx
   have hm:=sx13_back m h0 h1 h2
   have q1:=z1e (m%4294967296/4096) 2 (by omega)
   have q2:=z1e (m%4294967296/32) 64 (by omega)
   have q3:=z1e (m%4294967296/2) 16 (by omega)
   have q4:=z1e (m%4294967296/2048) 2 (by omega)
   generalize m%4294967296/4096%2=t at *
   generalize m%4294967296/32%64=v at *
   generalize m%4294967296/2%16=w at *
   generalize m%4294967296/2048%2=u at *
   obtain⟨r0,r1,r2,r3,r4,r5,r6,r7,r8⟩:=get_B t v b a g w u o q1 q2 hb ha ⟨hg0,hg1⟩ q3 q4 ⟨ho0,ho1⟩ x hx'
   simp[hasF,z2h,z2j,z2i,z2a,r1,r2,r3,r4,r5,r6,r7,r8,hm]
   exact r0
  ·simp[mayF,z1f,z4i] at h
   obtain⟨⟨⟨hd,ha⟩,hb⟩,⟨rfl,rfl⟩,h0,h1⟩:=h
   have hx':x=m%4294967296*4096+d*128+o:=hx
   rw[show m%4294967296=m by omega] at hx'
   simp[hasF,z2h,z2j,z2i,z2a]
   refine⟨by omega,by omega,by omega,by omega⟩
  ·simp[mayF,z1f,z4i] at h
   obtain⟨⟨⟨hd,ha⟩,hb⟩,⟨⟨rfl,rfl⟩,h0,h1⟩,h2⟩:=h
   have hx':x=m%4294967296/1048576%2*2147483648+m%4294967296/2%1024*2097152+m%4294967296/2048%2*1048576+m%4294967296/4096%256*4096+d*128+o:=hx
   have hm:=sx21_back m h0 h1 h2
   have q1:=z1e (m%4294967296/1048576) 2 (by omega)
   have q2:=z1e (m%4294967296/2) 1024 (by omega)
   have q3:=z1e (m%4294967296/2048) 2 (by omega)
   have q4:=z1e (m%4294967296/4096) 256 (by omega)
   generalize m%4294967296/1048576%2=t at *
   generalize m%4294967296/2%1024=v at *
   generalize m%4294967296/2048%2=u at *
   generalize m%4294967296/4096%256=w at *
   obtain⟨r0,r1,r2,r3,r4,r5,r6⟩:=get_J t v u w d o q1 q2 q3 q4 hd ⟨ho0,ho1⟩ x hx'
   simp[hasF,z2h,z2j,z2i,z2a,r1,r2,r3,r4,r5,r6,hm]
   exact r0
  ·simp[mayF,z1f,z4i] at h
   obtain⟨⟨⟨hd,ha⟩,hb⟩,rfl,h0,h1⟩:=h
   have hx':x=m%4294967296%4096*1048576+a*32768+g*4096+d*128+o:=hx
   rw[show m%4294967296%4096=m by omega] at hx'
   obtain⟨r0,r1,r2,r3,r4,r5,r6,r7⟩:=get_R (m/32) (m%32) a g d o ⟨by omega,by omega⟩ (z1e m 32 (by omega)) ha ⟨hg0,hg1⟩ hd ⟨ho0,ho1⟩ x (by rw[hx'];omega)
   have r8:x/1048576=m:=by rw[r7];omega
   simp[hasF,z2h,z2j,z2i,z2a,r1,r2,r3,r4,r8]
   exact r0
 ·simp[mayF,z1f] at h
  have hx':x=o:=hx
  obtain⟨⟨⟨hd,ha⟩,hb⟩,⟨⟨rfl,rfl⟩,rfl⟩,rfl⟩:=h
  simp[hasF,z2h,z2j,z2i,z2a,hx']
  exact ho
theorem z5o:∀ q∈z3w,z4j q.2:=by simp[z3w,z4j]
theorem z7r {s:List UInt8} {p:z5f}:∀ {l:List (List UInt8 × z5f)},l.lookup s=some p→(s,p)∈l
 | [],h=>by cases h
 | (a,q)::l,h=>by
  rw[List.lookup_cons] at h
  cases e:s==a with
  | true=>
   rw[e] at h
   simp only[Option.some.injEq] at h
   obtain rfl:=beq_iff_eq.mp e
   subst h
   exact List.mem_cons_self
  | false=>
   rw[e] at h
   exact List.mem_cons_of_mem _ (z7r h)
def keyO (p:z5f):Int:=p.o%128
def keyG (p:z5f):Int:=if p.k=87 then p.o/4096%8 else p.g
def keyF (p:z5f):Int:=if p.k=87 then p.o/33554432 else p.f
def tellsG (p:z5f):Bool:=decide (p.k≠85)&&decide (p.k≠74)
def tellsF (p:z5f):Bool:=decide (p.k=82)||decide (p.k=83)||decide (p.k=87)
def apartB (p q:z5f):Bool:=
 decide (keyO p≠keyO q)||(tellsG p&&tellsG q&&decide (keyG p≠keyG q))||(tellsF p&&tellsF q&&decide (keyF p≠keyF q))||(decide (p.k=87)&&decide (q.k=87)&&decide (p.o≠q.o))
theorem keys_of_has (p:z5f) (hp:z4j p) (x:Int) (h:hasF p x) :
  x%128=keyO p∧(tellsG p=true→x/4096%8=keyG p)∧(tellsF p=true→x/33554432=keyF p)∧(p.k=87→x=p.o):=by
 obtain⟨k,o,g,f⟩:=p
 unfold z4j at hp
 simp only at hp
 rcases hp with ⟨hk,ho0,ho1,-⟩ | ⟨rfl,ho⟩
 ·have ho:o%128=o:=by omega
  rcases hk with rfl | rfl | rfl | rfl | rfl | rfl | rfl | rfl <;> simp[hasF] at h <;> simp[keyO,keyG,keyF,tellsG,tellsF,h,ho]
 ·have h':x=o:=h
  simp[keyO,keyG,keyF,tellsG,tellsF,h']
theorem apart_spec {p q:z5f} (hp:z4j p) (hq:z4j q) (h:apartB p q=true) (x:Int):¬(hasF p x∧hasF q x):=by
 rintro ⟨h1,h2⟩
 obtain⟨a1,a2,a3,a4⟩:=keys_of_has p hp x h1
 obtain⟨b1,b2,b3,b4⟩:=keys_of_has q hq x h2
 simp only[apartB,Bool.or_eq_true,Bool.and_eq_true,decide_eq_true_eq] at h
 rcases h with ((h | ⟨⟨t1,t2⟩,h⟩) | ⟨⟨t1,t2⟩,h⟩) | ⟨⟨t1,t2⟩,h⟩
 ·exact h (a1 ▸ b1)
 ·exact h ((a2 t1) ▸ (b2 t2))
 ·exact h ((a3 t1) ▸ (b3 t2))
 ·exact h ((a4 t1) ▸ (b4 t2))
theorem forms_apartB:(z3w.all fun q=>z3w.all fun r=>q.1==r.1||apartB q.2 r.2)=true:=by decide +kernel
theorem forms_apart {q r:List UInt8 × z5f} (hq:q∈z3w) (hr:r∈z3w) (x:Int) (h1:hasF q.2 x) (h2:hasF r.2 x):q.1=r.1:=by
 have h:=List.all_eq_true.mp (List.all_eq_true.mp forms_apartB q hq) r hr
 rcases Bool.or_eq_true _ _ ▸ h with h | h
 ·exact beq_iff_eq.mp h
 ·exact absurd ⟨h1,h2⟩ (apart_spec (z5o q hq) (z5o r hr) h x)
def hasB (p:z5f) (x:Int):Bool:=
 if p.k=82∨p.k=83 then decide (x%128=p.o)&&decide (x/4096%8=p.g)&&decide (x/33554432=p.f)
 else if p.k=73∨p.k=115∨p.k=66∨p.k=67 then decide (x%128=p.o)&&decide (x/4096%8=p.g)
 else if p.k=85∨p.k=74 then decide (x%128=p.o)
 else if p.k=87 then decide (x=p.o)
 else false
theorem hasB_iff (p:z5f) (x:Int):hasB p x=true↔hasF p x:=by
 unfold hasB hasF
 split
 ·simp[and_assoc]
 ·split
  ·simp
  ·split
   ·simp
   ·split <;> simp
def z8i (q:List UInt8 × z5f) (x:Int):MIns:=⟨q.1,z2h q.2.k x,z2j q.2.k x,z2i q.2.k x,z2a q.2.k x⟩
def getV (x:Int):Option MIns:=(z3w.find? fun q=>hasB q.2 x).map fun q=>z8i q x
def sameF (p q:z5f):Bool:=p.k==q.k&&p.o==q.o&&p.g==q.g&&p.f==q.f
theorem sameF_eq {p q:z5f} (h:sameF p q=true):p=q:=by
 obtain⟨a,b,c,d⟩:=p
 obtain⟨a',b',c',d'⟩:=q
 simp[sameF] at h
 obtain⟨⟨⟨rfl,rfl⟩,rfl⟩,rfl⟩:=h
 rfl
theorem forms_sameB:(z3w.all fun q=>sameF (z0q q.1) q.2)=true:=by decide +kernel
theorem z4s {q:List UInt8 × z5f} (h:q∈z3w):z0q q.1=q.2:=sameF_eq (List.all_eq_true.mp forms_sameB q h)
theorem may_known {i:MIns} (h:mayV i=true):(i.op,z0q i.op)∈z3w:=by
 cases e:z3w.lookup i.op with
 | none=>
  have:z0q i.op=noForm:=by unfold z0q;rw[e];rfl
  unfold mayV at h
  rw[this] at h
  simp[noForm,mayF] at h
 | some p=>
  have hm:=z7r e
  have:z0q i.op=p:=by unfold z0q;rw[e];rfl
  rw[this];exact hm
theorem put_u32 {i:MIns} (h:mayV i=true):0≤putV i∧putV i<4294967296:=
 (put_read (z0q i.op) (z5o _ (may_known h)) i.d i.a i.b i.m h (putV i) rfl).1
theorem get_put {i:MIns} (h:mayV i=true):getV (putV i)=some i:=by
 have hm:=may_known h
 obtain⟨hu,hh,rd,ra,rb,rm⟩:=put_read (z0q i.op) (z5o _ hm) i.d i.a i.b i.m h (putV i) rfl
 unfold getV
 cases e:z3w.find? fun q=>hasB q.2 (putV i) with
 | none=>
  have:=List.find?_eq_none.mp e _ hm
  exact absurd ((hasB_iff _ _).mpr hh) this
 | some q=>
  have hq:=List.mem_of_find?_eq_some e
  have hb0:hasB q.2 (putV i)=true:=List.find?_some (p:=fun q:List UInt8 × z5f=>hasB q.2 (putV i)) e
  have hb:=(hasB_iff _ _).mp hb0
  have h1:q.1=i.op:=forms_apart hq hm _ hb hh
  have h2:q.2=z0q i.op:=by rw[← h1];exact (z4s hq).symm
  show some (z8i q (putV i))=some i
  unfold z8i
  rw[h2,rd,ra,rb,rm,h1]
def formC (p:z5f):Array Value:=#[.int .u8 p.k,.int .u32 p.o,.int .u32 p.g,.int .u32 p.f]
theorem rform (s:ByteArray) (w:World) :
  Calls Tryz.prog 24 #[.string s] w fun e w'=>e=.returned (.agg (formC (z0q s.toList)))∧w'=w.alloc (.cells (formC (z0q s.toList)) 64):=by
 go_enter Tryz.func24,Tryz.ntmps24
 go_wp2
 all_goals (apply bodyPost_ret (hd:=rfl);focus (simp[results,Tryz.results24,go_sem];rfl))
 all_goals (simp[z0q,z3w,noForm,formC,List.lookup, *])
theorem z2v (s:ByteArray) (k o g f:Int) (hp:z0q s.toList=⟨k,o,g,f⟩) (w:World) :
  Calls Tryz.prog 24 #[.string s] w fun e w'=>e=.returned (.agg #[.int .u8 k,.int .u32 o,.int .u32 g,.int .u32 f])∧w'=w.alloc (.cells #[.int .u8 k,.int .u32 o,.int .u32 g,.int .u32 f] 64):=by
 have h:=rform s w
 rw[hp] at h
 exact h
theorem z4d {x y:Bool} (h:x=y):Ending.returned (.bool x)=.returned (.bool y):=by rw[h]
theorem rreg (n:Int) (w:World) :
  Calls Tryz.prog 48 #[.int .i64 n] w fun e w'=>e=.returned (.bool (regV n))∧w'=w:=by
 by_cases c:0≤n
 ·have e:regV n=decide (n<32):=by unfold regV;simp[c]
  rw[e]
  clear e
  go_enter Tryz.func48,Tryz.ntmps48
  go_wp2
  go_ret
  exact⟨rfl,rfl⟩
 ·have e:regV n=false:=by unfold regV;simp[c]
  rw[e]
  clear e
  go_enter Tryz.func48,Tryz.ntmps48
  go_wp2
  go_ret
  exact⟨rfl,rfl⟩
theorem rin (n lo hi:Int) (w:World) :
  Calls Tryz.prog 49 #[.int .i32 n,.int .i32 lo,.int .i32 hi] w fun e w'=>e=.returned (.bool (inV n lo hi))∧w'=w:=by
 by_cases c:lo≤n
 ·have e:inV n lo hi=decide (n≤hi):=by unfold inV;simp[c]
  rw[e]
  clear e
  go_enter Tryz.func49,Tryz.ntmps49
  go_wp2
  go_ret
  exact⟨rfl,rfl⟩
 ·have e:inV n lo hi=false:=by unfold inV;simp[c]
  rw[e]
  clear e
  go_enter Tryz.func49,Tryz.ntmps49
  go_wp2
  go_ret
  exact⟨rfl,rfl⟩
theorem kinds (s:List UInt8):(z0q s).k=82∨(z0q s).k=73∨(z0q s).k=83∨(z0q s).k=115∨(z0q s).k=66∨(z0q s).k=85∨(z0q s).k=74∨(z0q s).k=67∨(z0q s).k=87∨(z0q s).k=0:=by
 cases e:z3w.lookup s with
 | none=>
  have:z0q s=noForm:=by unfold z0q;rw[e];rfl
  rw[this];simp[noForm]
 | some p=>
  have hg:z4j p:=z5o _ (z7r e)
  have:z0q s=p:=by unfold z0q;rw[e];rfl
  rw[this]
  unfold z4j at hg
  omega
theorem fldk (k o g f:Value) (w:World):(Instr.field 64 (.agg #[k,o,g,f]) 0).run Tryz.prog w=.ok k w:=by kernel_rfl
theorem tmod2 (m:Int):(m.tmod 2==0)=decide (m%2=0):=by
 have h:m.tmod 2=0↔m%2=0:=by
  rcases Int.le_total 0 m with c | c
  ·rw[Int.tmod_eq_emod_of_nonneg c]
  ·have e:(-m).tmod 2=-(m.tmod 2):=Int.neg_tmod _ _
   rw[Int.tmod_eq_emod_of_nonneg (by omega)] at e
   omega
 rw[Bool.eq_iff_iff]
 simp[h]
theorem may_d (s:ByteArray) (d a b m:Int) (hd:regV d=false) (w:World) :
  Calls Tryz.prog 36 #[.agg #[.string s,.int .i64 d,.int .i64 a,.int .i64 b,.int .i32 m]] w fun e w'=>e=.returned (.bool (mayV ⟨s.toList,d,a,b,m⟩))∧Below w.heap.size w w':=by
 go_enter Tryz.func36,Tryz.ntmps36
 go_wp2_with (first | (go_at_call 48;refine (rreg _ _).mono ?_;rintro e w' ⟨rfl,rfl⟩) | (go_at_call 49;refine (rin _ _ _ _).mono ?_;rintro e w' ⟨rfl,rfl⟩))
 all_goals go_ret
 all_goals refine⟨z4d ?_,?_⟩
 all_goals (first | exact (Below.refl _ _).alloc (Nat.le_refl _) _ | exact ((Below.refl _ _).alloc (Nat.le_refl _) _).alloc (by simp) _ | skip)
 all_goals simp[mayV,mayF, *]
theorem may_a (s:ByteArray) (d a b m:Int) (hd:regV d=true) (ha:regV a=false) (w:World) :
  Calls Tryz.prog 36 #[.agg #[.string s,.int .i64 d,.int .i64 a,.int .i64 b,.int .i32 m]] w fun e w'=>e=.returned (.bool (mayV ⟨s.toList,d,a,b,m⟩))∧Below w.heap.size w w':=by
 go_enter Tryz.func36,Tryz.ntmps36
 go_wp2_with (first | (go_at_call 48;refine (rreg _ _).mono ?_;rintro e w' ⟨rfl,rfl⟩) | (go_at_call 49;refine (rin _ _ _ _).mono ?_;rintro e w' ⟨rfl,rfl⟩))
 all_goals go_ret
 all_goals refine⟨z4d ?_,?_⟩
 all_goals (first | exact (Below.refl _ _).alloc (Nat.le_refl _) _ | exact ((Below.refl _ _).alloc (Nat.le_refl _) _).alloc (by simp) _ | skip)
 all_goals simp[mayV,mayF, *]
theorem may_b (s:ByteArray) (d a b m:Int) (hd:regV d=true) (ha:regV a=true) (hb:regV b=false) (w:World) :
  Calls Tryz.prog 36 #[.agg #[.string s,.int .i64 d,.int .i64 a,.int .i64 b,.int .i32 m]] w fun e w'=>e=.returned (.bool (mayV ⟨s.toList,d,a,b,m⟩))∧Below w.heap.size w w':=by
 go_enter Tryz.func36,Tryz.ntmps36
 go_wp2_with (first | (go_at_call 48;refine (rreg _ _).mono ?_;rintro e w' ⟨rfl,rfl⟩) | (go_at_call 49;refine (rin _ _ _ _).mono ?_;rintro e w' ⟨rfl,rfl⟩))
 all_goals go_ret
 all_goals refine⟨z4d ?_,?_⟩
 all_goals (first | exact (Below.refl _ _).alloc (Nat.le_refl _) _ | exact ((Below.refl _ _).alloc (Nat.le_refl _) _).alloc (by simp) _ | skip)
 all_goals simp[mayV,mayF, *]
theorem may_82 (s:ByteArray) (d a b m:Int) (o g f:Int) (hp:z0q s.toList=⟨82,o,g,f⟩) (hd:regV d=true) (ha:regV a=true) (hb:regV b=true) (w:World) :
  Calls Tryz.prog 36 #[.agg #[.string s,.int .i64 d,.int .i64 a,.int .i64 b,.int .i32 m]] w fun e w'=>e=.returned (.bool (mayV ⟨s.toList,d,a,b,m⟩))∧Below w.heap.size w w':=by
 have HF:Hid (∀ w,Calls Tryz.prog 24 #[.string s] w fun e w'=>e=.returned (.agg #[.int .u8 82,.int .u32 o,.int .u32 g,.int .u32 f])∧w'=w.alloc (.cells #[.int .u8 82,.int .u32 o,.int .u32 g,.int .u32 f] 64)):=z2v s 82 o g f hp
 have hf:=fldk
 go_enter Tryz.func36,Tryz.ntmps36
 go_wp2_with (first | (go_at_call 48;refine (rreg _ _).mono ?_;rintro e w' ⟨rfl,rfl⟩) | (go_at_call 49;refine (rin _ _ _ _).mono ?_;rintro e w' ⟨rfl,rfl⟩) | (go_at_call 24;refine (HF _).mono ?_;rintro e w' ⟨rfl,rfl⟩))
 all_goals go_ret
 all_goals refine⟨z4d ?_,?_⟩
 all_goals (first | exact (Below.refl _ _).alloc (Nat.le_refl _) _ | exact ((Below.refl _ _).alloc (Nat.le_refl _) _).alloc (by simp) _ | skip)
 all_goals (first | (simp[mayV,mayF, *];done) | (simp[mayV,mayF, *];rfl) | (simp_all [mayV,mayF];done))
theorem may_73 (s:ByteArray) (d a b m:Int) (o g f:Int) (hp:z0q s.toList=⟨73,o,g,f⟩) (hd:regV d=true) (ha:regV a=true) (hb:regV b=true) (w:World) :
  Calls Tryz.prog 36 #[.agg #[.string s,.int .i64 d,.int .i64 a,.int .i64 b,.int .i32 m]] w fun e w'=>e=.returned (.bool (mayV ⟨s.toList,d,a,b,m⟩))∧Below w.heap.size w w':=by
 have HF:Hid (∀ w,Calls Tryz.prog 24 #[.string s] w fun e w'=>e=.returned (.agg #[.int .u8 73,.int .u32 o,.int .u32 g,.int .u32 f])∧w'=w.alloc (.cells #[.int .u8 73,.int .u32 o,.int .u32 g,.int .u32 f] 64)):=z2v s 73 o g f hp
 have hf:=fldk
 go_enter Tryz.func36,Tryz.ntmps36
 go_wp2_with (first | (go_at_call 48;refine (rreg _ _).mono ?_;rintro e w' ⟨rfl,rfl⟩) | (go_at_call 49;refine (rin _ _ _ _).mono ?_;rintro e w' ⟨rfl,rfl⟩) | (go_at_call 24;refine (HF _).mono ?_;rintro e w' ⟨rfl,rfl⟩))
 all_goals go_ret
 all_goals refine⟨z4d ?_,?_⟩
 all_goals (first | exact (Below.refl _ _).alloc (Nat.le_refl _) _ | exact ((Below.refl _ _).alloc (Nat.le_refl _) _).alloc (by simp) _ | skip)
 all_goals (first | (simp[mayV,mayF, *];done) | (simp[mayV,mayF, *];rfl) | (simp_all [mayV,mayF];done))
theorem may_83 (s:ByteArray) (d a b m:Int) (o g f:Int) (hp:z0q s.toList=⟨83,o,g,f⟩) (hd:regV d=true) (ha:regV a=true) (hb:regV b=true) (w:World) :
  Calls Tryz.prog 36 #[.agg #[.string s,.int .i64 d,.int .i64 a,.int .i64 b,.int .i32 m]] w fun e w'=>e=.returned (.bool (mayV ⟨s.toList,d,a,b,m⟩))∧Below w.heap.size w w':=by
 have HF:Hid (∀ w,Calls Tryz.prog 24 #[.string s] w fun e w'=>e=.returned (.agg #[.int .u8 83,.int .u32 o,.int .u32 g,.int .u32 f])∧w'=w.alloc (.cells #[.int .u8 83,.int .u32 o,.int .u32 g,.int .u32 f] 64)):=z2v s 83 o g f hp
 have hf:=fldk
 go_enter Tryz.func36,Tryz.ntmps36
 go_wp2_with (first | (go_at_call 48;refine (rreg _ _).mono ?_;rintro e w' ⟨rfl,rfl⟩) | (go_at_call 49;refine (rin _ _ _ _).mono ?_;rintro e w' ⟨rfl,rfl⟩) | (go_at_call 24;refine (HF _).mono ?_;rintro e w' ⟨rfl,rfl⟩))
 all_goals go_ret
 all_goals refine⟨z4d ?_,?_⟩
 all_goals (first | exact (Below.refl _ _).alloc (Nat.le_refl _) _ | exact ((Below.refl _ _).alloc (Nat.le_refl _) _).alloc (by simp) _ | skip)
 all_goals (first | (simp[mayV,mayF, *];done) | (simp[mayV,mayF, *];rfl) | (simp_all [mayV,mayF];done))
theorem may_115 (s:ByteArray) (d a b m:Int) (o g f:Int) (hp:z0q s.toList=⟨115,o,g,f⟩) (hd:regV d=true) (ha:regV a=true) (hb:regV b=true) (w:World) :
  Calls Tryz.prog 36 #[.agg #[.string s,.int .i64 d,.int .i64 a,.int .i64 b,.int .i32 m]] w fun e w'=>e=.returned (.bool (mayV ⟨s.toList,d,a,b,m⟩))∧Below w.heap.size w w':=by
 have HF:Hid (∀ w,Calls Tryz.prog 24 #[.string s] w fun e w'=>e=.returned (.agg #[.int .u8 115,.int .u32 o,.int .u32 g,.int .u32 f])∧w'=w.alloc (.cells #[.int .u8 115,.int .u32 o,.int .u32 g,.int .u32 f] 64)):=z2v s 115 o g f hp
 have hf:=fldk
 go_enter Tryz.func36,Tryz.ntmps36
 go_wp2_with (first | (go_at_call 48;refine (rreg _ _).mono ?_;rintro e w' ⟨rfl,rfl⟩) | (go_at_call 49;refine (rin _ _ _ _).mono ?_;rintro e w' ⟨rfl,rfl⟩) | (go_at_call 24;refine (HF _).mono ?_;rintro e w' ⟨rfl,rfl⟩))
 all_goals go_ret
 all_goals refine⟨z4d ?_,?_⟩
 all_goals (first | exact (Below.refl _ _).alloc (Nat.le_refl _) _ | exact ((Below.refl _ _).alloc (Nat.le_refl _) _).alloc (by simp) _ | skip)
 all_goals (first | (simp[mayV,mayF, *];done) | (simp[mayV,mayF, *];rfl) | (simp_all [mayV,mayF];done))
theorem may_66 (s:ByteArray) (d a b m:Int) (o g f:Int) (hp:z0q s.toList=⟨66,o,g,f⟩) (hd:regV d=true) (ha:regV a=true) (hb:regV b=true) (w:World) :
  Calls Tryz.prog 36 #[.agg #[.string s,.int .i64 d,.int .i64 a,.int .i64 b,.int .i32 m]] w fun e w'=>e=.returned (.bool (mayV ⟨s.toList,d,a,b,m⟩))∧Below w.heap.size w w':=by
 have HF:Hid (∀ w,Calls Tryz.prog 24 #[.string s] w fun e w'=>e=.returned (.agg #[.int .u8 66,.int .u32 o,.int .u32 g,.int .u32 f])∧w'=w.alloc (.cells #[.int .u8 66,.int .u32 o,.int .u32 g,.int .u32 f] 64)):=z2v s 66 o g f hp
 have hf:=fldk
 go_enter Tryz.func36,Tryz.ntmps36
 go_wp2_with (first | (go_at_call 48;refine (rreg _ _).mono ?_;rintro e w' ⟨rfl,rfl⟩) | (go_at_call 49;refine (rin _ _ _ _).mono ?_;rintro e w' ⟨rfl,rfl⟩) | (go_at_call 24;refine (HF _).mono ?_;rintro e w' ⟨rfl,rfl⟩))
 all_goals go_ret
 all_goals refine⟨z4d ?_,?_⟩
 all_goals (first | exact (Below.refl _ _).alloc (Nat.le_refl _) _ | exact ((Below.refl _ _).alloc (Nat.le_refl _) _).alloc (by simp) _ | skip)
 all_goals (first | (simp[mayV,mayF, *];done) | (rw[tmod2];simp_all [mayV,mayF];done))
theorem may_85 (s:ByteArray) (d a b m:Int) (o g f:Int) (hp:z0q s.toList=⟨85,o,g,f⟩) (hd:regV d=true) (ha:regV a=true) (hb:regV b=true) (w:World) :
  Calls Tryz.prog 36 #[.agg #[.string s,.int .i64 d,.int .i64 a,.int .i64 b,.int .i32 m]] w fun e w'=>e=.returned (.bool (mayV ⟨s.toList,d,a,b,m⟩))∧Below w.heap.size w w':=by
 have HF:Hid (∀ w,Calls Tryz.prog 24 #[.string s] w fun e w'=>e=.returned (.agg #[.int .u8 85,.int .u32 o,.int .u32 g,.int .u32 f])∧w'=w.alloc (.cells #[.int .u8 85,.int .u32 o,.int .u32 g,.int .u32 f] 64)):=z2v s 85 o g f hp
 have hf:=fldk
 go_enter Tryz.func36,Tryz.ntmps36
 go_wp2_with (first | (go_at_call 48;refine (rreg _ _).mono ?_;rintro e w' ⟨rfl,rfl⟩) | (go_at_call 49;refine (rin _ _ _ _).mono ?_;rintro e w' ⟨rfl,rfl⟩) | (go_at_call 24;refine (HF _).mono ?_;rintro e w' ⟨rfl,rfl⟩))
 all_goals go_ret
 all_goals refine⟨z4d ?_,?_⟩
 all_goals (first | exact (Below.refl _ _).alloc (Nat.le_refl _) _ | exact ((Below.refl _ _).alloc (Nat.le_refl _) _).alloc (by simp) _ | skip)
 all_goals (first | (simp[mayV,mayF, *];done) | (simp[mayV,mayF, *];rfl) | (simp_all [mayV,mayF];done))
theorem may_74 (s:ByteArray) (d a b m:Int) (o g f:Int) (hp:z0q s.toList=⟨74,o,g,f⟩) (hd:regV d=true) (ha:regV a=true) (hb:regV b=true) (w:World) :
  Calls Tryz.prog 36 #[.agg #[.string s,.int .i64 d,.int .i64 a,.int .i64 b,.int .i32 m]] w fun e w'=>e=.returned (.bool (mayV ⟨s.toList,d,a,b,m⟩))∧Below w.heap.size w w':=by
 have HF:Hid (∀ w,Calls Tryz.prog 24 #[.string s] w fun e w'=>e=.returned (.agg #[.int .u8 74,.int .u32 o,.int .u32 g,.int .u32 f])∧w'=w.alloc (.cells #[.int .u8 74,.int .u32 o,.int .u32 g,.int .u32 f] 64)):=z2v s 74 o g f hp
 have hf:=fldk
 go_enter Tryz.func36,Tryz.ntmps36
 go_wp2_with (first | (go_at_call 48;refine (rreg _ _).mono ?_;rintro e w' ⟨rfl,rfl⟩) | (go_at_call 49;refine (rin _ _ _ _).mono ?_;rintro e w' ⟨rfl,rfl⟩) | (go_at_call 24;refine (HF _).mono ?_;rintro e w' ⟨rfl,rfl⟩))
 all_goals go_ret
 all_goals refine⟨z4d ?_,?_⟩
 all_goals (first | exact (Below.refl _ _).alloc (Nat.le_refl _) _ | exact ((Below.refl _ _).alloc (Nat.le_refl _) _).alloc (by simp) _ | skip)
 all_goals (first | (simp[mayV,mayF, *];done) | (rw[tmod2];simp_all [mayV,mayF];done))
theorem may_67 (s:ByteArray) (d a b m:Int) (o g f:Int) (hp:z0q s.toList=⟨67,o,g,f⟩) (hd:regV d=true) (ha:regV a=true) (hb:regV b=true) (w:World) :
  Calls Tryz.prog 36 #[.agg #[.string s,.int .i64 d,.int .i64 a,.int .i64 b,.int .i32 m]] w fun e w'=>e=.returned (.bool (mayV ⟨s.toList,d,a,b,m⟩))∧Below w.heap.size w w':=by
 have HF:Hid (∀ w,Calls Tryz.prog 24 #[.string s] w fun e w'=>e=.returned (.agg #[.int .u8 67,.int .u32 o,.int .u32 g,.int .u32 f])∧w'=w.alloc (.cells #[.int .u8 67,.int .u32 o,.int .u32 g,.int .u32 f] 64)):=z2v s 67 o g f hp
 have hf:=fldk
 go_enter Tryz.func36,Tryz.ntmps36
 go_wp2_with (first | (go_at_call 48;refine (rreg _ _).mono ?_;rintro e w' ⟨rfl,rfl⟩) | (go_at_call 49;refine (rin _ _ _ _).mono ?_;rintro e w' ⟨rfl,rfl⟩) | (go_at_call 24;refine (HF _).mono ?_;rintro e w' ⟨rfl,rfl⟩))
 all_goals go_ret
 all_goals refine⟨z4d ?_,?_⟩
 all_goals (first | exact (Below.refl _ _).alloc (Nat.le_refl _) _ | exact ((Below.refl _ _).alloc (Nat.le_refl _) _).alloc (by simp) _ | skip)
 all_goals (first | (simp[mayV,mayF, *];done) | (simp[mayV,mayF, *];rfl) | (simp_all [mayV,mayF];done))
theorem may_87 (s:ByteArray) (d a b m:Int) (o g f:Int) (hp:z0q s.toList=⟨87,o,g,f⟩) (hd:regV d=true) (ha:regV a=true) (hb:regV b=true) (w:World) :
  Calls Tryz.prog 36 #[.agg #[.string s,.int .i64 d,.int .i64 a,.int .i64 b,.int .i32 m]] w fun e w'=>e=.returned (.bool (mayV ⟨s.toList,d,a,b,m⟩))∧Below w.heap.size w w':=by
 have HF:Hid (∀ w,Calls Tryz.prog 24 #[.string s] w fun e w'=>e=.returned (.agg #[.int .u8 87,.int .u32 o,.int .u32 g,.int .u32 f])∧w'=w.alloc (.cells #[.int .u8 87,.int .u32 o,.int .u32 g,.int .u32 f] 64)):=z2v s 87 o g f hp
 have hf:=fldk
 go_enter Tryz.func36,Tryz.ntmps36
 go_wp2_with (first | (go_at_call 48;refine (rreg _ _).mono ?_;rintro e w' ⟨rfl,rfl⟩) | (go_at_call 49;refine (rin _ _ _ _).mono ?_;rintro e w' ⟨rfl,rfl⟩) | (go_at_call 24;refine (HF _).mono ?_;rintro e w' ⟨rfl,rfl⟩))
 all_goals go_ret
 all_goals refine⟨z4d ?_,?_⟩
 all_goals (first | exact (Below.refl _ _).alloc (Nat.le_refl _) _ | exact ((Below.refl _ _).alloc (Nat.le_refl _) _).alloc (by simp) _ | skip)
 all_goals (first | (simp[mayV,mayF, *];done) | (simp[mayV,mayF, *];rfl) | (simp_all [mayV,mayF];done))
theorem may_0 (s:ByteArray) (d a b m:Int) (o g f:Int) (hp:z0q s.toList=⟨0,o,g,f⟩) (hd:regV d=true) (ha:regV a=true) (hb:regV b=true) (w:World) :
  Calls Tryz.prog 36 #[.agg #[.string s,.int .i64 d,.int .i64 a,.int .i64 b,.int .i32 m]] w fun e w'=>e=.returned (.bool (mayV ⟨s.toList,d,a,b,m⟩))∧Below w.heap.size w w':=by
 have HF:Hid (∀ w,Calls Tryz.prog 24 #[.string s] w fun e w'=>e=.returned (.agg #[.int .u8 0,.int .u32 o,.int .u32 g,.int .u32 f])∧w'=w.alloc (.cells #[.int .u8 0,.int .u32 o,.int .u32 g,.int .u32 f] 64)):=z2v s 0 o g f hp
 have hf:=fldk
 go_enter Tryz.func36,Tryz.ntmps36
 go_wp2_with (first | (go_at_call 48;refine (rreg _ _).mono ?_;rintro e w' ⟨rfl,rfl⟩) | (go_at_call 49;refine (rin _ _ _ _).mono ?_;rintro e w' ⟨rfl,rfl⟩) | (go_at_call 24;refine (HF _).mono ?_;rintro e w' ⟨rfl,rfl⟩))
 all_goals go_ret
 all_goals refine⟨z4d ?_,?_⟩
 all_goals (first | exact (Below.refl _ _).alloc (Nat.le_refl _) _ | exact ((Below.refl _ _).alloc (Nat.le_refl _) _).alloc (by simp) _ | skip)
 all_goals (first | (simp[mayV,mayF, *];done) | (simp[mayV,mayF, *];rfl) | (simp_all [mayV,mayF];done))
theorem rMay (s:ByteArray) (d a b m:Int) (w:World) :
  Calls Tryz.prog 36 #[.agg #[.string s,.int .i64 d,.int .i64 a,.int .i64 b,.int .i32 m]] w fun e w'=>e=.returned (.bool (mayV ⟨s.toList,d,a,b,m⟩))∧Below w.heap.size w w':=by
 cases hd:regV d with
 | false=>exact may_d s d a b m hd w
 | true=>
  cases ha:regV a with
  | false=>exact may_a s d a b m hd ha w
  | true=>
   cases hb:regV b with
   | false=>exact may_b s d a b m hd ha hb w
   | true=>
    have hk:=kinds s.toList
    cases hp:z0q s.toList with
    | mk k o g f=>
     rw[hp] at hk
     simp only at hk
     rcases hk with rfl | rfl | rfl | rfl | rfl | rfl | rfl | rfl | rfl | rfl
     ·exact may_82 s d a b m o g f hp hd ha hb w
     ·exact may_73 s d a b m o g f hp hd ha hb w
     ·exact may_83 s d a b m o g f hp hd ha hb w
     ·exact may_115 s d a b m o g f hp hd ha hb w
     ·exact may_66 s d a b m o g f hp hd ha hb w
     ·exact may_85 s d a b m o g f hp hd ha hb w
     ·exact may_74 s d a b m o g f hp hd ha hb w
     ·exact may_67 s d a b m o g f hp hd ha hb w
     ·exact may_87 s d a b m o g f hp hd ha hb w
     ·exact may_0 s d a b m o g f hp hd ha hb w
end Go.Proofs.YtilcoimelnpkeaaGreatDoor
