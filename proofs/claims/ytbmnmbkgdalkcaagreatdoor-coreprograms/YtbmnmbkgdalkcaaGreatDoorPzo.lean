/-
  Contracts of functions that the statement reaches, and what they are made of, callees first.
-/
import Derived.ArgAppend
import Derived.Below
import Derived.BigQuiet
import Derived.Deep.QuietTactic
import Derived.Laws.AppendOwn
import Derived.LoopTactic
import Derived.RowKit3
import Derived.Sort.Grow
import Derived.StillTailTactics
import Derived.Test.YtbmnmbkgdalkcaaGreatDoorPza
import Derived.Test.YtbmnmbkgdalkcaaGreatDoorPzd
set_option maxRecDepth 100000
set_option maxHeartbeats 8000000
namespace Go.Proofs.YtbmnmbkgdalkcaaGreatDoor
open Go.RowKit
theorem bcell {W w1:World} (hb:Below W.heap.size W w1):(∀ b o,b<W.heap.size→w1.cell? ⟨b,o,none⟩=W.cell? ⟨b,o,none⟩)∧(∀ b o,b<W.heap.size→w1.frozen? ⟨b,o,none⟩=W.frozen? ⟨b,o,none⟩):=
 ⟨fun b o h=>hb.cell (p:=⟨b,o,none⟩) h,fun b o h=>hb.frozen (p:=⟨b,o,none⟩) h⟩
theorem below2 {w w1:World} {x y:Obj} (hb:Below ((w.alloc x).alloc y).heap.size ((w.alloc x).alloc y) w1):Below w.heap.size w w1:=
 (((Below.refl _ _).alloc (Nat.le_refl _) _).alloc (by simp) _).trans (hb.mono (by simp;omega))
theorem z5b {w w1:World} {s:ByteArray} {d a b m k o g f:Int}
  (hb:Below ((w.alloc (.cells #[.string s,.int .i64 d,.int .i64 a,.int .i64 b,.int .i32 m] 52)).alloc (.cells #[.int .u32 0,.int .i64 0] 81)).heap.size ((w.alloc (.cells #[.string s,.int .i64 d,.int .i64 a,.int .i64 b,.int .i32 m] 52)).alloc (.cells #[.int .u32 0,.int .i64 0] 81)) w1) :
  let W:=(w1.alloc (.cells #[.int .u8 k,.int .u32 o,.int .u32 g,.int .u32 f] 78)).alloc (.cells #[.int .u8 k,.int .u32 o,.int .u32 g,.int .u32 f] 78)
  W.cell? ⟨w.heap.size,0,none⟩=some (.string s)∧W.cell? ⟨w.heap.size,1,none⟩=some (.int .i64 d)∧W.cell? ⟨w.heap.size,2,none⟩=some (.int .i64 a)∧W.cell? ⟨w.heap.size,3,none⟩=some (.int .i64 b)∧W.cell? ⟨w.heap.size,4,none⟩=some (.int .i32 m)∧
  W.cell? ⟨w.heap.size+1,0,none⟩=some (.int .u32 0)∧W.cell? ⟨w.heap.size+1,1,none⟩=some (.int .i64 0)∧W.frozen? ⟨w.heap.size+1,0,none⟩=false∧W.frozen? ⟨w.heap.size+1,1,none⟩=false∧
  W.cell? ⟨w1.heap.size+1,0,none⟩=some (.int .u8 k)∧W.cell? ⟨w1.heap.size+1,1,none⟩=some (.int .u32 o)∧W.cell? ⟨w1.heap.size+1,2,none⟩=some (.int .u32 g)∧W.cell? ⟨w1.heap.size+1,3,none⟩=some (.int .u32 f)∧
  Below w.heap.size w W:=by
 intro W
 have hz:=hb.size
 simp at hz
 have C:∀ (B i:Nat) (v:Value),B<w.heap.size+2→((w.alloc (.cells #[.string s,.int .i64 d,.int .i64 a,.int .i64 b,.int .i32 m] 52)).alloc (.cells #[.int .u32 0,.int .i64 0] 81)).cell? ⟨B,i,none⟩=some v→W.cell? ⟨B,i,none⟩=some v:=by
  intro B i v h hv
  show ((w1.alloc _).alloc _).cell? _=_
  rw[World.cell?_alloc_lt _ _ _ (by simp;omega),World.cell?_alloc_lt _ _ _ (by simp;omega),hb.cell (p:=⟨B,i,none⟩) (by simp;omega)]
  exact hv
 have Fz:∀ (i:Nat),W.frozen? ⟨w.heap.size+1,i,none⟩=false:=by
  intro i
  show ((w1.alloc _).alloc _).frozen? _=_
  rw[frozen?_alloc_cells,frozen?_alloc_cells,hb.frozen (p:=⟨w.heap.size+1,i,none⟩) (by simp),frozen?_alloc_cells,frozen?_alloc_cells]
  simp[World.frozen?]
 refine⟨C _ _ _ (by omega) (by simp[go_sem]),C _ _ _ (by omega) (by simp[go_sem]),C _ _ _ (by omega) (by simp[go_sem]),C _ _ _ (by omega) (by simp[go_sem]),C _ _ _ (by omega) (by simp[go_sem]),C _ _ _ (by omega) (by simp[go_sem]),C _ _ _ (by omega) (by simp[go_sem]),Fz 0,Fz 1,by simp[W,go_sem],by simp[W,go_sem],by simp[W,go_sem],by simp[W,go_sem],?_⟩
 exact ((below2 hb).alloc (by omega) _).alloc (by simp;omega) _
theorem z7x {x y e f:Int} (h:x=y) (h':e=f):Ending.returned (.agg #[.int .u32 x,.int .i64 e])=.returned (.agg #[.int .u32 y,.int .i64 f]):=by rw[h,h']
theorem put_not (s:ByteArray) (d a b m:Int) (hm:mayV ⟨s.toList,d,a,b,m⟩=false) (w:World) :
  Calls Tryz.prog 37 #[.agg #[.string s,.int .i64 d,.int .i64 a,.int .i64 b,.int .i32 m]] w fun e w'=>e=.returned (.agg #[.int .u32 0,.int .i64 1])∧Below w.heap.size w w':=by
 have HM:Hid (∀ w,Calls Tryz.prog 63 #[.agg #[.string s,.int .i64 d,.int .i64 a,.int .i64 b,.int .i32 m]] w fun e w'=>e=.returned (.bool false)∧Below w.heap.size w w'):=by
  intro w
  have h:=rMay s d a b m w
  rw[hm] at h
  exact h
 clear hm
 go_enter Tryz.func37,Tryz.ntmps37
 go_wp2_with fail
 refine (HM _).mono ?_
 rintro e w1 ⟨rfl,hb⟩
 obtain⟨hc,hf⟩:=bcell hb
 have hz:=hb.size
 simp at hz
 go_wp2_with fail
 apply bodyPost_ret (hd:=rfl)
 focus (simp[results,Tryz.results37,go_sem,hc];rfl)
 exact⟨rfl,((below2 hb).setCell (by simp) _).setCell (by simp) _⟩
theorem z0u (B:Nat) (W:World) (n:Nat):Below B W (W.drewN n):=⟨rfl,rfl,rfl,Nat.le_refl _,fun _ _=>rfl⟩
theorem z9o {P:Program} {id:Nat} {Q:Exit→Act→World→Prop} {a:Act} {w:World} {l:List Oper} (n:Nat) (hm:P.follows .mixedOrders=true) (hB:Region.lexTailB .any l.toArray n=true)
  (h:wpStill P l.toArray w.drew (fun a'=>wpList P l.toArray Q (l.drop n) a' w.drew) (l.take n) a):(Code.region id l.toArray true).wp P Q a w:=wp_region_still_tail n hm hB h
theorem or_R {f b a g d o:Int} (hf:0≤f∧f<128) (hb:0≤b∧b<32) (ha:0≤a∧a<32) (hg:0≤g∧g<8) (hd:0≤d∧d<32) (ho:0≤o∧o<128) :
  bits .or .u32 (bits .or .u32 (bits .or .u32 (bits .or .u32 (bits .or .u32 (f*33554432) (b*1048576)) (a*32768)) (g*4096)) (d*128)) o=f*33554432+b*1048576+a*32768+g*4096+d*128+o:=by
 have e1:=z2w (x:=f*33554432) (y:=b*1048576) 25 (by omega) ⟨by omega,by omega⟩ (by omega) (by omega) (by omega)
 have e2:=z2w (x:=f*33554432+b*1048576) (y:=a*32768) 20 (by omega) ⟨by omega,by omega⟩ (by omega) (by omega) (by omega)
 have e3:=z2w (x:=f*33554432+b*1048576+a*32768) (y:=g*4096) 15 (by omega) ⟨by omega,by omega⟩ (by omega) (by omega) (by omega)
 have e4:=z2w (x:=f*33554432+b*1048576+a*32768+g*4096) (y:=d*128) 12 (by omega) ⟨by omega,by omega⟩ (by omega) (by omega) (by omega)
 have e5:=z2w (x:=f*33554432+b*1048576+a*32768+g*4096+d*128) (y:=o) 7 (by omega) ⟨by omega,by omega⟩ (by omega) (by omega) (by omega)
 rw[e1,e2,e3,e4,e5]
theorem or_I {q a g d o:Int} (hq:0≤q∧q<4096) (ha:0≤a∧a<32) (hg:0≤g∧g<8) (hd:0≤d∧d<32) (ho:0≤o∧o<128) :
  bits .or .u32 (bits .or .u32 (bits .or .u32 (bits .or .u32 (q*1048576) (a*32768)) (g*4096)) (d*128)) (o)=q*1048576+a*32768+g*4096+d*128+o:=by
 have e0:=z2w (x:=q*1048576) (y:=a*32768) 20 (by omega) ⟨by omega,by omega⟩ (by omega) (by omega) (by omega)
 have e1:=z2w (x:=q*1048576+a*32768) (y:=g*4096) 15 (by omega) ⟨by omega,by omega⟩ (by omega) (by omega) (by omega)
 have e2:=z2w (x:=q*1048576+a*32768+g*4096) (y:=d*128) 12 (by omega) ⟨by omega,by omega⟩ (by omega) (by omega) (by omega)
 have e3:=z2w (x:=q*1048576+a*32768+g*4096+d*128) (y:=o) 7 (by omega) ⟨by omega,by omega⟩ (by omega) (by omega) (by omega)
 rw[e0,e1,e2,e3]
theorem or_B {t v b a g w u o:Int} (ht:0≤t∧t<2) (hv:0≤v∧v<64) (hb:0≤b∧b<32) (ha:0≤a∧a<32) (hg:0≤g∧g<8) (hw:0≤w∧w<16) (hu:0≤u∧u<2) (ho:0≤o∧o<128) :
  bits .or .u32 (bits .or .u32 (bits .or .u32 (bits .or .u32 (bits .or .u32 (bits .or .u32 (bits .or .u32 (t*2147483648) (v*33554432)) (b*1048576)) (a*32768)) (g*4096)) (w*256)) (u*128)) (o)=t*2147483648+v*33554432+b*1048576+a*32768+g*4096+w*256+u*128+o:=by
 have e0:=z2w (x:=t*2147483648) (y:=v*33554432) 31 (by omega) ⟨by omega,by omega⟩ (by omega) (by omega) (by omega)
 have e1:=z2w (x:=t*2147483648+v*33554432) (y:=b*1048576) 25 (by omega) ⟨by omega,by omega⟩ (by omega) (by omega) (by omega)
 have e2:=z2w (x:=t*2147483648+v*33554432+b*1048576) (y:=a*32768) 20 (by omega) ⟨by omega,by omega⟩ (by omega) (by omega) (by omega)
 have e3:=z2w (x:=t*2147483648+v*33554432+b*1048576+a*32768) (y:=g*4096) 15 (by omega) ⟨by omega,by omega⟩ (by omega) (by omega) (by omega)
 have e4:=z2w (x:=t*2147483648+v*33554432+b*1048576+a*32768+g*4096) (y:=w*256) 12 (by omega) ⟨by omega,by omega⟩ (by omega) (by omega) (by omega)
 have e5:=z2w (x:=t*2147483648+v*33554432+b*1048576+a*32768+g*4096+w*256) (y:=u*128) 8 (by omega) ⟨by omega,by omega⟩ (by omega) (by omega) (by omega)
 have e6:=z2w (x:=t*2147483648+v*33554432+b*1048576+a*32768+g*4096+w*256+u*128) (y:=o) 7 (by omega) ⟨by omega,by omega⟩ (by omega) (by omega) (by omega)
 rw[e0,e1,e2,e3,e4,e5,e6]
theorem or_U {q d o:Int} (hq:0≤q∧q<1048576) (hd:0≤d∧d<32) (ho:0≤o∧o<128) :
  bits .or .u32 (bits .or .u32 (q*4096) (d*128)) (o)=q*4096+d*128+o:=by
 have e0:=z2w (x:=q*4096) (y:=d*128) 12 (by omega) ⟨by omega,by omega⟩ (by omega) (by omega) (by omega)
 have e1:=z2w (x:=q*4096+d*128) (y:=o) 7 (by omega) ⟨by omega,by omega⟩ (by omega) (by omega) (by omega)
 rw[e0,e1]
theorem or_J {t v u w d o:Int} (ht:0≤t∧t<2) (hv:0≤v∧v<1024) (hu:0≤u∧u<2) (hw:0≤w∧w<256) (hd:0≤d∧d<32) (ho:0≤o∧o<128) :
  bits .or .u32 (bits .or .u32 (bits .or .u32 (bits .or .u32 (bits .or .u32 (t*2147483648) (v*2097152)) (u*1048576)) (w*4096)) (d*128)) (o)=t*2147483648+v*2097152+u*1048576+w*4096+d*128+o:=by
 have e0:=z2w (x:=t*2147483648) (y:=v*2097152) 31 (by omega) ⟨by omega,by omega⟩ (by omega) (by omega) (by omega)
 have e1:=z2w (x:=t*2147483648+v*2097152) (y:=u*1048576) 21 (by omega) ⟨by omega,by omega⟩ (by omega) (by omega) (by omega)
 have e2:=z2w (x:=t*2147483648+v*2097152+u*1048576) (y:=w*4096) 20 (by omega) ⟨by omega,by omega⟩ (by omega) (by omega) (by omega)
 have e3:=z2w (x:=t*2147483648+v*2097152+u*1048576+w*4096) (y:=d*128) 12 (by omega) ⟨by omega,by omega⟩ (by omega) (by omega) (by omega)
 have e4:=z2w (x:=t*2147483648+v*2097152+u*1048576+w*4096+d*128) (y:=o) 7 (by omega) ⟨by omega,by omega⟩ (by omega) (by omega) (by omega)
 rw[e0,e1,e2,e3,e4]
theorem put_82 (s:ByteArray) (d a b m o g f:Int) (hm:mayV ⟨s.toList,d,a,b,m⟩=true) (hp:z0q s.toList=⟨82,o,g,f⟩) (hk:z4j ⟨82,o,g,f⟩) (w:World) :
  Calls Tryz.prog 37 #[.agg #[.string s,.int .i64 d,.int .i64 a,.int .i64 b,.int .i32 m]] w fun e w'=>e=.returned (.agg #[.int .u32 (putV ⟨s.toList,d,a,b,m⟩),.int .i64 0])∧Below w.heap.size w w':=by
 have HM:Hid (∀ w,Calls Tryz.prog 63 #[.agg #[.string s,.int .i64 d,.int .i64 a,.int .i64 b,.int .i32 m]] w fun e w'=>e=.returned (.bool true)∧Below w.heap.size w w'):=by
  intro w
  have h:=rMay s d a b m w
  rw[hm] at h
  exact h
 have HF:Hid (∀ w,Calls Tryz.prog 36 #[.string s] w fun e w'=>e=.returned (.agg #[.int .u8 82,.int .u32 o,.int .u32 g,.int .u32 f])∧w'=w.alloc (.cells #[.int .u8 82,.int .u32 o,.int .u32 g,.int .u32 f] 78)):=z2v s 82 o g f hp
 have HR:Hid (regV d=true∧regV a=true∧regV b=true):=by
  have h:=hm
  simp[mayV,mayF] at h
  exact⟨h.1.1.1,h.1.1.2,h.1.2⟩
 have rd:=(z1f d).mp HR.out.1
 have ra:=(z1f a).mp HR.out.2.1
 have rb:=(z1f b).mp HR.out.2.2
 have ud:IntKind.u32.wrap d=d:=by rw[IntKind.wrap_u32'];omega
 have ua:IntKind.u32.wrap a=a:=by rw[IntKind.wrap_u32'];omega
 have ub:IntKind.u32.wrap b=b:=by rw[IntKind.wrap_u32'];omega
 have um:=IntKind.wrap_u32' m
 have Hm:Hid (U32 (m%4294967296)):=⟨by omega,by omega⟩
 generalize hM:m%4294967296=M at *
 have HMM:Hid (m%4294967296=M):=hM
 have HH:Hid (mayV ⟨s.toList,d,a,b,m⟩=true):=hm
 have HP:Hid (z0q s.toList=⟨82,o,g,f⟩):=hp
 unfold z4j at hk
 simp at hk
 obtain⟨o0,o1,g0,g1,f0,f1⟩:=hk
 obtain⟨d0,d1⟩:=rd
 obtain⟨a0,a1⟩:=ra
 obtain⟨b0,b1⟩:=rb
 have M0:0≤M:=by omega
 have M1:M<4294967296:=by omega
 clear hm hp hM
 go_enter Tryz.func37,Tryz.ntmps37
 go_wp2_with fail
 refine (HM _).mono ?_
 rintro e w1 ⟨rfl,hb⟩
 obtain⟨hc,hf⟩:=bcell hb
 have hz:=hb.size
 simp at hz
 go_wp2_with fail
 refine (HF _).mono ?_
 rintro e w' ⟨rfl,rfl⟩
 go_wp2_with fail
 obtain⟨k0,k1,k2,k3,k4,q0,q1,z0,z1,f0',f1',f2',f3',bW⟩:=z5b (k:=82) (o:=o) (g:=g) (f:=f) hb
 have HB:Hid _:=bW
 generalize (w1.alloc (.cells #[.int .u8 82,.int .u32 o,.int .u32 g,.int .u32 f] 78)).alloc (.cells #[.int .u8 82,.int .u32 o,.int .u32 g,.int .u32 f] 78)=W at *
 generalize hgf:w1.heap.size+1=G at *
 clear hb hc hf hz bW hgf
 go_quiet (fail)
 go_wp2_with (go_at_call 46;refine (z4k _ _ _ Hm _).mono ?_;rintro e w' ⟨rfl,rfl⟩)
 apply bodyPost_ret (hd:=rfl)
 focus (simp[results,Tryz.results37,go_sem,q0,q1];rfl)
 refine⟨z7x ?_ rfl,?_⟩
 ·have e:putV ⟨s.toList,d,a,b,m⟩=putF ⟨82,o,g,f⟩ d a b m:=by unfold putV;rw[HP.out]
  rw[e]
  simp only[putF]
  exact or_R ⟨f0,f1⟩ ⟨b0,b1⟩ ⟨a0,a1⟩ ⟨g0,g1⟩ ⟨d0,d1⟩ ⟨o0,o1⟩
 ·exact (((HB.out.trans (z0u _ _ _)).setCell (by simp) _).setCell (by simp) _)
theorem put_73 (s:ByteArray) (d a b m o g f:Int) (hm:mayV ⟨s.toList,d,a,b,m⟩=true) (hp:z0q s.toList=⟨73,o,g,f⟩) (hk:z4j ⟨73,o,g,f⟩) (w:World) :
  Calls Tryz.prog 37 #[.agg #[.string s,.int .i64 d,.int .i64 a,.int .i64 b,.int .i32 m]] w fun e w'=>e=.returned (.agg #[.int .u32 (putV ⟨s.toList,d,a,b,m⟩),.int .i64 0])∧Below w.heap.size w w':=by
 have HM:Hid (∀ w,Calls Tryz.prog 63 #[.agg #[.string s,.int .i64 d,.int .i64 a,.int .i64 b,.int .i32 m]] w fun e w'=>e=.returned (.bool true)∧Below w.heap.size w w'):=by
  intro w
  have h:=rMay s d a b m w
  rw[hm] at h
  exact h
 have HF:Hid (∀ w,Calls Tryz.prog 36 #[.string s] w fun e w'=>e=.returned (.agg #[.int .u8 73,.int .u32 o,.int .u32 g,.int .u32 f])∧w'=w.alloc (.cells #[.int .u8 73,.int .u32 o,.int .u32 g,.int .u32 f] 78)):=z2v s 73 o g f hp
 have HR:Hid (regV d=true∧regV a=true∧regV b=true):=by
  have h:=hm
  simp[mayV,mayF] at h
  exact⟨h.1.1.1,h.1.1.2,h.1.2⟩
 have rd:=(z1f d).mp HR.out.1
 have ra:=(z1f a).mp HR.out.2.1
 have rb:=(z1f b).mp HR.out.2.2
 have ud:IntKind.u32.wrap d=d:=by rw[IntKind.wrap_u32'];omega
 have ua:IntKind.u32.wrap a=a:=by rw[IntKind.wrap_u32'];omega
 have ub:IntKind.u32.wrap b=b:=by rw[IntKind.wrap_u32'];omega
 have um:=IntKind.wrap_u32' m
 have Hm:Hid (U32 (m%4294967296)):=⟨by omega,by omega⟩
 generalize hM:m%4294967296=M at *
 have HMM:Hid (m%4294967296=M):=hM
 have HH:Hid (mayV ⟨s.toList,d,a,b,m⟩=true):=hm
 have HP:Hid (z0q s.toList=⟨73,o,g,f⟩):=hp
 unfold z4j at hk
 simp at hk
 obtain⟨o0,o1,g0,g1,f0,f1⟩:=hk
 obtain⟨d0,d1⟩:=rd
 obtain⟨a0,a1⟩:=ra
 obtain⟨b0,b1⟩:=rb
 have M0:0≤M:=by omega
 have M1:M<4294967296:=by omega
 clear hm hp hM
 go_enter Tryz.func37,Tryz.ntmps37
 go_wp2_with fail
 refine (HM _).mono ?_
 rintro e w1 ⟨rfl,hb⟩
 obtain⟨hc,hf⟩:=bcell hb
 have hz:=hb.size
 simp at hz
 go_wp2_with fail
 refine (HF _).mono ?_
 rintro e w' ⟨rfl,rfl⟩
 go_wp2_with fail
 obtain⟨k0,k1,k2,k3,k4,q0,q1,z0,z1,f0',f1',f2',f3',bW⟩:=z5b (k:=73) (o:=o) (g:=g) (f:=f) hb
 have HB:Hid _:=bW
 generalize (w1.alloc (.cells #[.int .u8 73,.int .u32 o,.int .u32 g,.int .u32 f] 78)).alloc (.cells #[.int .u8 73,.int .u32 o,.int .u32 g,.int .u32 f] 78)=W at *
 generalize hgf:w1.heap.size+1=G at *
 clear hb hc hf hz bW hgf
 go_quiet (fail)
 go_wp2_with (go_at_call 46;refine (z4k _ _ _ Hm _).mono ?_;rintro e w' ⟨rfl,rfl⟩)
 apply bodyPost_ret (hd:=rfl)
 focus (simp[results,Tryz.results37,go_sem,q0,q1];rfl)
 refine⟨z7x ?_ rfl,?_⟩
 ·have e:putV ⟨s.toList,d,a,b,m⟩=putF ⟨73,o,g,f⟩ d a b m:=by unfold putV;rw[HP.out]
  rw[e]
  simp only[putF]
  rw[HMM.out,show M*1048576%4294967296=M%4096*1048576 by omega]
  exact or_I (z1e M 4096 (by omega)) ⟨a0,a1⟩ ⟨g0,g1⟩ ⟨d0,d1⟩ ⟨o0,o1⟩
 ·exact (((HB.out.trans (z0u _ _ _)).setCell (by simp) _).setCell (by simp) _)
theorem put_67 (s:ByteArray) (d a b m o g f:Int) (hm:mayV ⟨s.toList,d,a,b,m⟩=true) (hp:z0q s.toList=⟨67,o,g,f⟩) (hk:z4j ⟨67,o,g,f⟩) (w:World) :
  Calls Tryz.prog 37 #[.agg #[.string s,.int .i64 d,.int .i64 a,.int .i64 b,.int .i32 m]] w fun e w'=>e=.returned (.agg #[.int .u32 (putV ⟨s.toList,d,a,b,m⟩),.int .i64 0])∧Below w.heap.size w w':=by
 have HM:Hid (∀ w,Calls Tryz.prog 63 #[.agg #[.string s,.int .i64 d,.int .i64 a,.int .i64 b,.int .i32 m]] w fun e w'=>e=.returned (.bool true)∧Below w.heap.size w w'):=by
  intro w
  have h:=rMay s d a b m w
  rw[hm] at h
  exact h
 have HF:Hid (∀ w,Calls Tryz.prog 36 #[.string s] w fun e w'=>e=.returned (.agg #[.int .u8 67,.int .u32 o,.int .u32 g,.int .u32 f])∧w'=w.alloc (.cells #[.int .u8 67,.int .u32 o,.int .u32 g,.int .u32 f] 78)):=z2v s 67 o g f hp
 have HR:Hid (regV d=true∧regV a=true∧regV b=true):=by
  have h:=hm
  simp[mayV,mayF] at h
  exact⟨h.1.1.1,h.1.1.2,h.1.2⟩
 have rd:=(z1f d).mp HR.out.1
 have ra:=(z1f a).mp HR.out.2.1
 have rb:=(z1f b).mp HR.out.2.2
 have ud:IntKind.u32.wrap d=d:=by rw[IntKind.wrap_u32'];omega
 have ua:IntKind.u32.wrap a=a:=by rw[IntKind.wrap_u32'];omega
 have ub:IntKind.u32.wrap b=b:=by rw[IntKind.wrap_u32'];omega
 have um:=IntKind.wrap_u32' m
 have Hm:Hid (U32 (m%4294967296)):=⟨by omega,by omega⟩
 generalize hM:m%4294967296=M at *
 have HMM:Hid (m%4294967296=M):=hM
 have HH:Hid (mayV ⟨s.toList,d,a,b,m⟩=true):=hm
 have HP:Hid (z0q s.toList=⟨67,o,g,f⟩):=hp
 unfold z4j at hk
 simp at hk
 obtain⟨o0,o1,g0,g1,f0,f1⟩:=hk
 obtain⟨d0,d1⟩:=rd
 obtain⟨a0,a1⟩:=ra
 obtain⟨b0,b1⟩:=rb
 have M0:0≤M:=by omega
 have M1:M<4294967296:=by omega
 clear hm hp hM
 go_enter Tryz.func37,Tryz.ntmps37
 go_wp2_with fail
 refine (HM _).mono ?_
 rintro e w1 ⟨rfl,hb⟩
 obtain⟨hc,hf⟩:=bcell hb
 have hz:=hb.size
 simp at hz
 go_wp2_with fail
 refine (HF _).mono ?_
 rintro e w' ⟨rfl,rfl⟩
 go_wp2_with fail
 obtain⟨k0,k1,k2,k3,k4,q0,q1,z0,z1,f0',f1',f2',f3',bW⟩:=z5b (k:=67) (o:=o) (g:=g) (f:=f) hb
 have HB:Hid _:=bW
 generalize (w1.alloc (.cells #[.int .u8 67,.int .u32 o,.int .u32 g,.int .u32 f] 78)).alloc (.cells #[.int .u8 67,.int .u32 o,.int .u32 g,.int .u32 f] 78)=W at *
 generalize hgf:w1.heap.size+1=G at *
 clear hb hc hf hz bW hgf
 go_quiet (fail)
 go_wp2_with (go_at_call 46;refine (z4k _ _ _ Hm _).mono ?_;rintro e w' ⟨rfl,rfl⟩)
 apply bodyPost_ret (hd:=rfl)
 focus (simp[results,Tryz.results37,go_sem,q0,q1];rfl)
 refine⟨z7x ?_ rfl,?_⟩
 ·have e:putV ⟨s.toList,d,a,b,m⟩=putF ⟨67,o,g,f⟩ d a b m:=by unfold putV;rw[HP.out]
  rw[e]
  simp only[putF]
  rw[HMM.out,show M*1048576%4294967296=M%4096*1048576 by omega]
  exact or_I (z1e M 4096 (by omega)) ⟨a0,a1⟩ ⟨g0,g1⟩ ⟨d0,d1⟩ ⟨o0,o1⟩
 ·exact (((HB.out.trans (z0u _ _ _)).setCell (by simp) _).setCell (by simp) _)
theorem put_83 (s:ByteArray) (d a b m o g f:Int) (hm:mayV ⟨s.toList,d,a,b,m⟩=true) (hp:z0q s.toList=⟨83,o,g,f⟩) (hk:z4j ⟨83,o,g,f⟩) (w:World) :
  Calls Tryz.prog 37 #[.agg #[.string s,.int .i64 d,.int .i64 a,.int .i64 b,.int .i32 m]] w fun e w'=>e=.returned (.agg #[.int .u32 (putV ⟨s.toList,d,a,b,m⟩),.int .i64 0])∧Below w.heap.size w w':=by
 have HM:Hid (∀ w,Calls Tryz.prog 63 #[.agg #[.string s,.int .i64 d,.int .i64 a,.int .i64 b,.int .i32 m]] w fun e w'=>e=.returned (.bool true)∧Below w.heap.size w w'):=by
  intro w
  have h:=rMay s d a b m w
  rw[hm] at h
  exact h
 have HF:Hid (∀ w,Calls Tryz.prog 36 #[.string s] w fun e w'=>e=.returned (.agg #[.int .u8 83,.int .u32 o,.int .u32 g,.int .u32 f])∧w'=w.alloc (.cells #[.int .u8 83,.int .u32 o,.int .u32 g,.int .u32 f] 78)):=z2v s 83 o g f hp
 have HR:Hid (regV d=true∧regV a=true∧regV b=true):=by
  have h:=hm
  simp[mayV,mayF] at h
  exact⟨h.1.1.1,h.1.1.2,h.1.2⟩
 have rd:=(z1f d).mp HR.out.1
 have ra:=(z1f a).mp HR.out.2.1
 have rb:=(z1f b).mp HR.out.2.2
 have ud:IntKind.u32.wrap d=d:=by rw[IntKind.wrap_u32'];omega
 have ua:IntKind.u32.wrap a=a:=by rw[IntKind.wrap_u32'];omega
 have ub:IntKind.u32.wrap b=b:=by rw[IntKind.wrap_u32'];omega
 have um:=IntKind.wrap_u32' m
 have Hm:Hid (U32 (m%4294967296)):=⟨by omega,by omega⟩
 generalize hM:m%4294967296=M at *
 have HMM:Hid (m%4294967296=M):=hM
 have HH:Hid (mayV ⟨s.toList,d,a,b,m⟩=true):=hm
 have HP:Hid (z0q s.toList=⟨83,o,g,f⟩):=hp
 unfold z4j at hk
 simp at hk
 obtain⟨o0,o1,g0,g1,f0,f1⟩:=hk
 obtain⟨d0,d1⟩:=rd
 obtain⟨a0,a1⟩:=ra
 obtain⟨b0,b1⟩:=rb
 have M0:0≤M:=by omega
 have M1:M<4294967296:=by omega
 clear hm hp hM
 have hs:M≤31:=by
  have h:=HH.out
  simp[mayV,HP.out,mayF,z4i] at h
  have:=HMM.out
  omega
 go_enter Tryz.func37,Tryz.ntmps37
 go_wp2_with fail
 refine (HM _).mono ?_
 rintro e w1 ⟨rfl,hb⟩
 obtain⟨hc,hf⟩:=bcell hb
 have hz:=hb.size
 simp at hz
 go_wp2_with fail
 refine (HF _).mono ?_
 rintro e w' ⟨rfl,rfl⟩
 go_wp2_with fail
 obtain⟨k0,k1,k2,k3,k4,q0,q1,z0,z1,f0',f1',f2',f3',bW⟩:=z5b (k:=83) (o:=o) (g:=g) (f:=f) hb
 have HB:Hid _:=bW
 generalize (w1.alloc (.cells #[.int .u8 83,.int .u32 o,.int .u32 g,.int .u32 f] 78)).alloc (.cells #[.int .u8 83,.int .u32 o,.int .u32 g,.int .u32 f] 78)=W at *
 generalize hgf:w1.heap.size+1=G at *
 clear hb hc hf hz bW hgf
 go_quiet (fail)
 go_wp2_with (go_at_call 46;refine (z4k _ _ _ Hm _).mono ?_;rintro e w' ⟨rfl,rfl⟩)
 apply bodyPost_ret (hd:=rfl)
 focus (simp[results,Tryz.results37,go_sem,q0,q1];rfl)
 refine⟨z7x ?_ rfl,?_⟩
 ·have e:putV ⟨s.toList,d,a,b,m⟩=putF ⟨83,o,g,f⟩ d a b m:=by unfold putV;rw[HP.out]
  rw[e]
  simp only[putF]
  rw[HMM.out]
  exact or_R ⟨f0,f1⟩ ⟨M0,by omega⟩ ⟨a0,a1⟩ ⟨g0,g1⟩ ⟨d0,d1⟩ ⟨o0,o1⟩
 ·exact (((HB.out.trans (z0u _ _ _)).setCell (by simp) _).setCell (by simp) _)
theorem put_85 (s:ByteArray) (d a b m o g f:Int) (hm:mayV ⟨s.toList,d,a,b,m⟩=true) (hp:z0q s.toList=⟨85,o,g,f⟩) (hk:z4j ⟨85,o,g,f⟩) (w:World) :
  Calls Tryz.prog 37 #[.agg #[.string s,.int .i64 d,.int .i64 a,.int .i64 b,.int .i32 m]] w fun e w'=>e=.returned (.agg #[.int .u32 (putV ⟨s.toList,d,a,b,m⟩),.int .i64 0])∧Below w.heap.size w w':=by
 have HM:Hid (∀ w,Calls Tryz.prog 63 #[.agg #[.string s,.int .i64 d,.int .i64 a,.int .i64 b,.int .i32 m]] w fun e w'=>e=.returned (.bool true)∧Below w.heap.size w w'):=by
  intro w
  have h:=rMay s d a b m w
  rw[hm] at h
  exact h
 have HF:Hid (∀ w,Calls Tryz.prog 36 #[.string s] w fun e w'=>e=.returned (.agg #[.int .u8 85,.int .u32 o,.int .u32 g,.int .u32 f])∧w'=w.alloc (.cells #[.int .u8 85,.int .u32 o,.int .u32 g,.int .u32 f] 78)):=z2v s 85 o g f hp
 have HR:Hid (regV d=true∧regV a=true∧regV b=true):=by
  have h:=hm
  simp[mayV,mayF] at h
  exact⟨h.1.1.1,h.1.1.2,h.1.2⟩
 have rd:=(z1f d).mp HR.out.1
 have ra:=(z1f a).mp HR.out.2.1
 have rb:=(z1f b).mp HR.out.2.2
 have ud:IntKind.u32.wrap d=d:=by rw[IntKind.wrap_u32'];omega
 have ua:IntKind.u32.wrap a=a:=by rw[IntKind.wrap_u32'];omega
 have ub:IntKind.u32.wrap b=b:=by rw[IntKind.wrap_u32'];omega
 have um:=IntKind.wrap_u32' m
 have Hm:Hid (U32 (m%4294967296)):=⟨by omega,by omega⟩
 generalize hM:m%4294967296=M at *
 have HMM:Hid (m%4294967296=M):=hM
 have HH:Hid (mayV ⟨s.toList,d,a,b,m⟩=true):=hm
 have HP:Hid (z0q s.toList=⟨85,o,g,f⟩):=hp
 unfold z4j at hk
 simp at hk
 obtain⟨o0,o1,g0,g1,f0,f1⟩:=hk
 obtain⟨d0,d1⟩:=rd
 obtain⟨a0,a1⟩:=ra
 obtain⟨b0,b1⟩:=rb
 have M0:0≤M:=by omega
 have M1:M<4294967296:=by omega
 clear hm hp hM
 have hs:M<1048576:=by
  have h:=HH.out
  simp[mayV,HP.out,mayF,z4i] at h
  have:=HMM.out
  omega
 go_enter Tryz.func37,Tryz.ntmps37
 go_wp2_with fail
 refine (HM _).mono ?_
 rintro e w1 ⟨rfl,hb⟩
 obtain⟨hc,hf⟩:=bcell hb
 have hz:=hb.size
 simp at hz
 go_wp2_with fail
 refine (HF _).mono ?_
 rintro e w' ⟨rfl,rfl⟩
 go_wp2_with fail
 obtain⟨k0,k1,k2,k3,k4,q0,q1,z0,z1,f0',f1',f2',f3',bW⟩:=z5b (k:=85) (o:=o) (g:=g) (f:=f) hb
 have HB:Hid _:=bW
 generalize (w1.alloc (.cells #[.int .u8 85,.int .u32 o,.int .u32 g,.int .u32 f] 78)).alloc (.cells #[.int .u8 85,.int .u32 o,.int .u32 g,.int .u32 f] 78)=W at *
 generalize hgf:w1.heap.size+1=G at *
 clear hb hc hf hz bW hgf
 go_quiet (fail)
 go_wp2_with (go_at_call 46;refine (z4k _ _ _ Hm _).mono ?_;rintro e w' ⟨rfl,rfl⟩)
 apply bodyPost_ret (hd:=rfl)
 focus (simp[results,Tryz.results37,go_sem,q0,q1];rfl)
 refine⟨z7x ?_ rfl,?_⟩
 ·have e:putV ⟨s.toList,d,a,b,m⟩=putF ⟨85,o,g,f⟩ d a b m:=by unfold putV;rw[HP.out]
  rw[e]
  simp only[putF]
  rw[HMM.out]
  exact or_U ⟨M0,hs⟩ ⟨d0,d1⟩ ⟨o0,o1⟩
 ·exact (((HB.out.trans (z0u _ _ _)).setCell (by simp) _).setCell (by simp) _)
theorem put_115 (s:ByteArray) (d a b m o g f:Int) (hm:mayV ⟨s.toList,d,a,b,m⟩=true) (hp:z0q s.toList=⟨115,o,g,f⟩) (hk:z4j ⟨115,o,g,f⟩) (w:World) :
  Calls Tryz.prog 37 #[.agg #[.string s,.int .i64 d,.int .i64 a,.int .i64 b,.int .i32 m]] w fun e w'=>e=.returned (.agg #[.int .u32 (putV ⟨s.toList,d,a,b,m⟩),.int .i64 0])∧Below w.heap.size w w':=by
 have HM:Hid (∀ w,Calls Tryz.prog 63 #[.agg #[.string s,.int .i64 d,.int .i64 a,.int .i64 b,.int .i32 m]] w fun e w'=>e=.returned (.bool true)∧Below w.heap.size w w'):=by
  intro w
  have h:=rMay s d a b m w
  rw[hm] at h
  exact h
 have HF:Hid (∀ w,Calls Tryz.prog 36 #[.string s] w fun e w'=>e=.returned (.agg #[.int .u8 115,.int .u32 o,.int .u32 g,.int .u32 f])∧w'=w.alloc (.cells #[.int .u8 115,.int .u32 o,.int .u32 g,.int .u32 f] 78)):=z2v s 115 o g f hp
 have HR:Hid (regV d=true∧regV a=true∧regV b=true):=by
  have h:=hm
  simp[mayV,mayF] at h
  exact⟨h.1.1.1,h.1.1.2,h.1.2⟩
 have rd:=(z1f d).mp HR.out.1
 have ra:=(z1f a).mp HR.out.2.1
 have rb:=(z1f b).mp HR.out.2.2
 have ud:IntKind.u32.wrap d=d:=by rw[IntKind.wrap_u32'];omega
 have ua:IntKind.u32.wrap a=a:=by rw[IntKind.wrap_u32'];omega
 have ub:IntKind.u32.wrap b=b:=by rw[IntKind.wrap_u32'];omega
 have um:=IntKind.wrap_u32' m
 have Hm:Hid (U32 (m%4294967296)):=⟨by omega,by omega⟩
 generalize hM:m%4294967296=M at *
 have HMM:Hid (m%4294967296=M):=hM
 have HH:Hid (mayV ⟨s.toList,d,a,b,m⟩=true):=hm
 have HP:Hid (z0q s.toList=⟨115,o,g,f⟩):=hp
 unfold z4j at hk
 simp at hk
 obtain⟨o0,o1,g0,g1,f0,f1⟩:=hk
 obtain⟨d0,d1⟩:=rd
 obtain⟨a0,a1⟩:=ra
 obtain⟨b0,b1⟩:=rb
 have M0:0≤M:=by omega
 have M1:M<4294967296:=by omega
 clear hm hp hM
 have hu:z0j M 5 7=M/2 ^ 5%2 ^ 7:=z0t Hm 5 7 (by omega) (by omega) (by omega)
 have bu:=z1e (M/2 ^ 5) (2 ^ 7) (by omega)
 generalize hxu:M/2 ^ 5%2 ^ 7=u at hu bu
 have Xu:Hid (M/2 ^ 5%2 ^ 7=u):=hxu
 obtain⟨cu,Cu⟩:=bu
 clear hxu
 have hv:z0j M 0 5=M/2 ^ 0%2 ^ 5:=z0t Hm 0 5 (by omega) (by omega) (by omega)
 have bv:=z1e (M/2 ^ 0) (2 ^ 5) (by omega)
 generalize hxv:M/2 ^ 0%2 ^ 5=v at hv bv
 have Xv:Hid (M/2 ^ 0%2 ^ 5=v):=hxv
 obtain⟨cv,Cv⟩:=bv
 clear hxv
 have y0:IntKind.u32.wrap (u*33554432)=u*33554432:=by rw[IntKind.wrap_u32'];omega
 have y1:IntKind.u32.wrap (b*1048576)=b*1048576:=by rw[IntKind.wrap_u32'];omega
 have y2:IntKind.u32.wrap (a*32768)=a*32768:=by rw[IntKind.wrap_u32'];omega
 have y3:IntKind.u32.wrap (v*128)=v*128:=by rw[IntKind.wrap_u32'];omega
 go_enter Tryz.func37,Tryz.ntmps37
 go_wp2_with fail
 refine (HM _).mono ?_
 rintro e w1 ⟨rfl,hb⟩
 obtain⟨hc,hf⟩:=bcell hb
 have hz:=hb.size
 simp at hz
 go_wp2_with fail
 refine (HF _).mono ?_
 rintro e w' ⟨rfl,rfl⟩
 go_wp2_with fail
 obtain⟨k0,k1,k2,k3,k4,q0,q1,z0,z1,f0',f1',f2',f3',bW⟩:=z5b (k:=115) (o:=o) (g:=g) (f:=f) hb
 have HB:Hid _:=bW
 generalize (w1.alloc (.cells #[.int .u8 115,.int .u32 o,.int .u32 g,.int .u32 f] 78)).alloc (.cells #[.int .u8 115,.int .u32 o,.int .u32 g,.int .u32 f] 78)=W at *
 generalize hgf:w1.heap.size+1=G at *
 clear hb hc hf hz bW hgf
 go_quiet (fail)
 go_wp2_with fail
 have F1:(W.drewN nq).cell? ⟨G,1,none⟩=some (.int .u32 o):=f1'
 have Q0:(W.drewN nq).cell? ⟨w.heap.size+1,0,none⟩=some (.int .u32 0):=q0
 have Q1:(W.drewN nq).cell? ⟨w.heap.size+1,1,none⟩=some (.int .i64 0):=q1
 have Z0:(W.drewN nq).frozen? ⟨w.heap.size+1,0,none⟩=false:=z0
 have Z1:(W.drewN nq).frozen? ⟨w.heap.size+1,1,none⟩=false:=z1
 have HB2:Hid (Below w.heap.size w (W.drewN nq)):=HB.out.trans (z0u _ _ _)
 generalize W.drewN nq=V at *
 refine z9o 19 (by kernel_rfl) (by kernel_rfl) ?_
 simp only[List.take_succ_cons,List.take_zero,List.drop_succ_cons,List.drop_zero]
 still_step
 still_call (z4k _ _ _ Hm _)
 still_step
 still_step
 still_step
 still_step
 still_step
 still_step
 still_step
 still_step
 still_step
 still_step
 still_call (z4k _ _ _ Hm _)
 still_step
 still_step
 still_step
 still_step
 still_step
 still_step
 refine wpStill_nil ?_
 go_wp2_with fail
 apply bodyPost_ret (hd:=rfl)
 focus (simp[results,Tryz.results37,go_sem,Q0,Q1];rfl)
 refine⟨z7x ?_ rfl,?_⟩
 ·have e:putV ⟨s.toList,d,a,b,m⟩=putF ⟨115,o,g,f⟩ d a b m:=by unfold putV;rw[HP.out]
  rw[e]
  simp only[putF]
  have Xu':=Xu.out
  have Xv':=Xv.out
  rw[HMM.out,show M/32%128=u from Xu',show M%32=v by rw[← Xv'];omega]
  exact or_R ⟨cu,Cu⟩ ⟨b0,b1⟩ ⟨a0,a1⟩ ⟨g0,g1⟩ ⟨cv,Cv⟩ ⟨o0,o1⟩
 ·exact ((HB2.out.drew.setCell (by simp) _).setCell (by simp) _)
theorem put_66 (s:ByteArray) (d a b m o g f:Int) (hm:mayV ⟨s.toList,d,a,b,m⟩=true) (hp:z0q s.toList=⟨66,o,g,f⟩) (hk:z4j ⟨66,o,g,f⟩) (w:World) :
  Calls Tryz.prog 37 #[.agg #[.string s,.int .i64 d,.int .i64 a,.int .i64 b,.int .i32 m]] w fun e w'=>e=.returned (.agg #[.int .u32 (putV ⟨s.toList,d,a,b,m⟩),.int .i64 0])∧Below w.heap.size w w':=by
 have HM:Hid (∀ w,Calls Tryz.prog 63 #[.agg #[.string s,.int .i64 d,.int .i64 a,.int .i64 b,.int .i32 m]] w fun e w'=>e=.returned (.bool true)∧Below w.heap.size w w'):=by
  intro w
  have h:=rMay s d a b m w
  rw[hm] at h
  exact h
 have HF:Hid (∀ w,Calls Tryz.prog 36 #[.string s] w fun e w'=>e=.returned (.agg #[.int .u8 66,.int .u32 o,.int .u32 g,.int .u32 f])∧w'=w.alloc (.cells #[.int .u8 66,.int .u32 o,.int .u32 g,.int .u32 f] 78)):=z2v s 66 o g f hp
 have HR:Hid (regV d=true∧regV a=true∧regV b=true):=by
  have h:=hm
  simp[mayV,mayF] at h
  exact⟨h.1.1.1,h.1.1.2,h.1.2⟩
 have rd:=(z1f d).mp HR.out.1
 have ra:=(z1f a).mp HR.out.2.1
 have rb:=(z1f b).mp HR.out.2.2
 have ud:IntKind.u32.wrap d=d:=by rw[IntKind.wrap_u32'];omega
 have ua:IntKind.u32.wrap a=a:=by rw[IntKind.wrap_u32'];omega
 have ub:IntKind.u32.wrap b=b:=by rw[IntKind.wrap_u32'];omega
 have um:=IntKind.wrap_u32' m
 have Hm:Hid (U32 (m%4294967296)):=⟨by omega,by omega⟩
 generalize hM:m%4294967296=M at *
 have HMM:Hid (m%4294967296=M):=hM
 have HH:Hid (mayV ⟨s.toList,d,a,b,m⟩=true):=hm
 have HP:Hid (z0q s.toList=⟨66,o,g,f⟩):=hp
 unfold z4j at hk
 simp at hk
 obtain⟨o0,o1,g0,g1,f0,f1⟩:=hk
 obtain⟨d0,d1⟩:=rd
 obtain⟨a0,a1⟩:=ra
 obtain⟨b0,b1⟩:=rb
 have M0:0≤M:=by omega
 have M1:M<4294967296:=by omega
 clear hm hp hM
 have ht:z0j M 12 1=M/2 ^ 12%2 ^ 1:=z0t Hm 12 1 (by omega) (by omega) (by omega)
 have bt:=z1e (M/2 ^ 12) (2 ^ 1) (by omega)
 generalize hxt:M/2 ^ 12%2 ^ 1=t at ht bt
 have Xt:Hid (M/2 ^ 12%2 ^ 1=t):=hxt
 obtain⟨ct,Ct⟩:=bt
 clear hxt
 have hv:z0j M 5 6=M/2 ^ 5%2 ^ 6:=z0t Hm 5 6 (by omega) (by omega) (by omega)
 have bv:=z1e (M/2 ^ 5) (2 ^ 6) (by omega)
 generalize hxv:M/2 ^ 5%2 ^ 6=v at hv bv
 have Xv:Hid (M/2 ^ 5%2 ^ 6=v):=hxv
 obtain⟨cv,Cv⟩:=bv
 clear hxv
 have hx:z0j M 1 4=M/2 ^ 1%2 ^ 4:=z0t Hm 1 4 (by omega) (by omega) (by omega)
 have bx:=z1e (M/2 ^ 1) (2 ^ 4) (by omega)
 generalize hxx:M/2 ^ 1%2 ^ 4=x at hx bx
 have Xx:Hid (M/2 ^ 1%2 ^ 4=x):=hxx
 obtain⟨cx,Cx⟩:=bx
 clear hxx
 have hu:z0j M 11 1=M/2 ^ 11%2 ^ 1:=z0t Hm 11 1 (by omega) (by omega) (by omega)
 have bu:=z1e (M/2 ^ 11) (2 ^ 1) (by omega)
 generalize hxu:M/2 ^ 11%2 ^ 1=u at hu bu
 have Xu:Hid (M/2 ^ 11%2 ^ 1=u):=hxu
 obtain⟨cu,Cu⟩:=bu
 clear hxu
 have y0:IntKind.u32.wrap (t*2147483648)=t*2147483648:=by rw[IntKind.wrap_u32'];omega
 have y1:IntKind.u32.wrap (v*33554432)=v*33554432:=by rw[IntKind.wrap_u32'];omega
 have y2:IntKind.u32.wrap (b*1048576)=b*1048576:=by rw[IntKind.wrap_u32'];omega
 have y3:IntKind.u32.wrap (a*32768)=a*32768:=by rw[IntKind.wrap_u32'];omega
 have y4:IntKind.u32.wrap (x*256)=x*256:=by rw[IntKind.wrap_u32'];omega
 have y5:IntKind.u32.wrap (u*128)=u*128:=by rw[IntKind.wrap_u32'];omega
 go_enter Tryz.func37,Tryz.ntmps37
 go_wp2_with fail
 refine (HM _).mono ?_
 rintro e w1 ⟨rfl,hb⟩
 obtain⟨hc,hf⟩:=bcell hb
 have hz:=hb.size
 simp at hz
 go_wp2_with fail
 refine (HF _).mono ?_
 rintro e w' ⟨rfl,rfl⟩
 go_wp2_with fail
 obtain⟨k0,k1,k2,k3,k4,q0,q1,z0,z1,f0',f1',f2',f3',bW⟩:=z5b (k:=66) (o:=o) (g:=g) (f:=f) hb
 have HB:Hid _:=bW
 generalize (w1.alloc (.cells #[.int .u8 66,.int .u32 o,.int .u32 g,.int .u32 f] 78)).alloc (.cells #[.int .u8 66,.int .u32 o,.int .u32 g,.int .u32 f] 78)=W at *
 generalize hgf:w1.heap.size+1=G at *
 clear hb hc hf hz bW hgf
 go_quiet (fail)
 go_wp2_with fail
 have F1:(W.drewN nq).cell? ⟨G,1,none⟩=some (.int .u32 o):=f1'
 have Q0:(W.drewN nq).cell? ⟨w.heap.size+1,0,none⟩=some (.int .u32 0):=q0
 have Q1:(W.drewN nq).cell? ⟨w.heap.size+1,1,none⟩=some (.int .i64 0):=q1
 have Z0:(W.drewN nq).frozen? ⟨w.heap.size+1,0,none⟩=false:=z0
 have Z1:(W.drewN nq).frozen? ⟨w.heap.size+1,1,none⟩=false:=z1
 have HB2:Hid (Below w.heap.size w (W.drewN nq)):=HB.out.trans (z0u _ _ _)
 generalize W.drewN nq=V at *
 refine z9o 27 (by kernel_rfl) (by kernel_rfl) ?_
 simp only[List.take_succ_cons,List.take_zero,List.drop_succ_cons,List.drop_zero]
 still_step
 still_call (z4k _ _ _ Hm _)
 still_step
 still_step
 still_call (z4k _ _ _ Hm _)
 still_step
 still_step
 still_step
 still_step
 still_step
 still_step
 still_step
 still_step
 still_step
 still_step
 still_step
 still_call (z4k _ _ _ Hm _)
 still_step
 still_step
 still_step
 still_call (z4k _ _ _ Hm _)
 still_step
 still_step
 still_step
 still_step
 still_step
 still_step
 refine wpStill_nil ?_
 go_wp2_with fail
 apply bodyPost_ret (hd:=rfl)
 focus (simp[results,Tryz.results37,go_sem,Q0,Q1];rfl)
 refine⟨z7x ?_ rfl,?_⟩
 ·have e:putV ⟨s.toList,d,a,b,m⟩=putF ⟨66,o,g,f⟩ d a b m:=by unfold putV;rw[HP.out]
  rw[e]
  simp only[putF]
  have Xt':M/4096%2=t:=Xt.out
  have Xv':M/32%64=v:=Xv.out
  have Xx':M/2%16=x:=Xx.out
  have Xu':M/2048%2=u:=Xu.out
  rw[HMM.out,Xt',Xv',Xx',Xu']
  exact or_B ⟨ct,Ct⟩ ⟨cv,Cv⟩ ⟨b0,b1⟩ ⟨a0,a1⟩ ⟨g0,g1⟩ ⟨cx,Cx⟩ ⟨cu,Cu⟩ ⟨o0,o1⟩
 ·exact ((HB2.out.drew.setCell (by simp) _).setCell (by simp) _)
theorem put_74 (s:ByteArray) (d a b m o g f:Int) (hm:mayV ⟨s.toList,d,a,b,m⟩=true) (hp:z0q s.toList=⟨74,o,g,f⟩) (hk:z4j ⟨74,o,g,f⟩) (w:World) :
  Calls Tryz.prog 37 #[.agg #[.string s,.int .i64 d,.int .i64 a,.int .i64 b,.int .i32 m]] w fun e w'=>e=.returned (.agg #[.int .u32 (putV ⟨s.toList,d,a,b,m⟩),.int .i64 0])∧Below w.heap.size w w':=by
 have HM:Hid (∀ w,Calls Tryz.prog 63 #[.agg #[.string s,.int .i64 d,.int .i64 a,.int .i64 b,.int .i32 m]] w fun e w'=>e=.returned (.bool true)∧Below w.heap.size w w'):=by
  intro w
  have h:=rMay s d a b m w
  rw[hm] at h
  exact h
 have HF:Hid (∀ w,Calls Tryz.prog 36 #[.string s] w fun e w'=>e=.returned (.agg #[.int .u8 74,.int .u32 o,.int .u32 g,.int .u32 f])∧w'=w.alloc (.cells #[.int .u8 74,.int .u32 o,.int .u32 g,.int .u32 f] 78)):=z2v s 74 o g f hp
 have HR:Hid (regV d=true∧regV a=true∧regV b=true):=by
  have h:=hm
  simp[mayV,mayF] at h
  exact⟨h.1.1.1,h.1.1.2,h.1.2⟩
 have rd:=(z1f d).mp HR.out.1
 have ra:=(z1f a).mp HR.out.2.1
 have rb:=(z1f b).mp HR.out.2.2
 have ud:IntKind.u32.wrap d=d:=by rw[IntKind.wrap_u32'];omega
 have ua:IntKind.u32.wrap a=a:=by rw[IntKind.wrap_u32'];omega
 have ub:IntKind.u32.wrap b=b:=by rw[IntKind.wrap_u32'];omega
 have um:=IntKind.wrap_u32' m
 have Hm:Hid (U32 (m%4294967296)):=⟨by omega,by omega⟩
 generalize hM:m%4294967296=M at *
 have HMM:Hid (m%4294967296=M):=hM
 have HH:Hid (mayV ⟨s.toList,d,a,b,m⟩=true):=hm
 have HP:Hid (z0q s.toList=⟨74,o,g,f⟩):=hp
 unfold z4j at hk
 simp at hk
 obtain⟨o0,o1,g0,g1,f0,f1⟩:=hk
 obtain⟨d0,d1⟩:=rd
 obtain⟨a0,a1⟩:=ra
 obtain⟨b0,b1⟩:=rb
 have M0:0≤M:=by omega
 have M1:M<4294967296:=by omega
 clear hm hp hM
 have ht:z0j M 20 1=M/2 ^ 20%2 ^ 1:=z0t Hm 20 1 (by omega) (by omega) (by omega)
 have bt:=z1e (M/2 ^ 20) (2 ^ 1) (by omega)
 generalize hxt:M/2 ^ 20%2 ^ 1=t at ht bt
 have Xt:Hid (M/2 ^ 20%2 ^ 1=t):=hxt
 obtain⟨ct,Ct⟩:=bt
 clear hxt
 have hv:z0j M 1 10=M/2 ^ 1%2 ^ 10:=z0t Hm 1 10 (by omega) (by omega) (by omega)
 have bv:=z1e (M/2 ^ 1) (2 ^ 10) (by omega)
 generalize hxv:M/2 ^ 1%2 ^ 10=v at hv bv
 have Xv:Hid (M/2 ^ 1%2 ^ 10=v):=hxv
 obtain⟨cv,Cv⟩:=bv
 clear hxv
 have hu:z0j M 11 1=M/2 ^ 11%2 ^ 1:=z0t Hm 11 1 (by omega) (by omega) (by omega)
 have bu:=z1e (M/2 ^ 11) (2 ^ 1) (by omega)
 generalize hxu:M/2 ^ 11%2 ^ 1=u at hu bu
 have Xu:Hid (M/2 ^ 11%2 ^ 1=u):=hxu
 obtain⟨cu,Cu⟩:=bu
 clear hxu
 have hx:z0j M 12 8=M/2 ^ 12%2 ^ 8:=z0t Hm 12 8 (by omega) (by omega) (by omega)
 have bx:=z1e (M/2 ^ 12) (2 ^ 8) (by omega)
 generalize hxx:M/2 ^ 12%2 ^ 8=x at hx bx
 have Xx:Hid (M/2 ^ 12%2 ^ 8=x):=hxx
 obtain⟨cx,Cx⟩:=bx
 clear hxx
 have y0:IntKind.u32.wrap (t*2147483648)=t*2147483648:=by rw[IntKind.wrap_u32'];omega
 have y1:IntKind.u32.wrap (v*2097152)=v*2097152:=by rw[IntKind.wrap_u32'];omega
 have y2:IntKind.u32.wrap (u*1048576)=u*1048576:=by rw[IntKind.wrap_u32'];omega
 have y3:IntKind.u32.wrap (x*4096)=x*4096:=by rw[IntKind.wrap_u32'];omega
 have y4:IntKind.u32.wrap (d*128)=d*128:=by rw[IntKind.wrap_u32'];omega
 go_enter Tryz.func37,Tryz.ntmps37
 go_wp2_with fail
 refine (HM _).mono ?_
 rintro e w1 ⟨rfl,hb⟩
 obtain⟨hc,hf⟩:=bcell hb
 have hz:=hb.size
 simp at hz
 go_wp2_with fail
 refine (HF _).mono ?_
 rintro e w' ⟨rfl,rfl⟩
 go_wp2_with fail
 obtain⟨k0,k1,k2,k3,k4,q0,q1,z0,z1,f0',f1',f2',f3',bW⟩:=z5b (k:=74) (o:=o) (g:=g) (f:=f) hb
 have HB:Hid _:=bW
 generalize (w1.alloc (.cells #[.int .u8 74,.int .u32 o,.int .u32 g,.int .u32 f] 78)).alloc (.cells #[.int .u8 74,.int .u32 o,.int .u32 g,.int .u32 f] 78)=W at *
 generalize hgf:w1.heap.size+1=G at *
 clear hb hc hf hz bW hgf
 go_quiet (fail)
 go_wp2_with fail
 have F1:(W.drewN nq).cell? ⟨G,1,none⟩=some (.int .u32 o):=f1'
 have Q0:(W.drewN nq).cell? ⟨w.heap.size+1,0,none⟩=some (.int .u32 0):=q0
 have Q1:(W.drewN nq).cell? ⟨w.heap.size+1,1,none⟩=some (.int .i64 0):=q1
 have Z0:(W.drewN nq).frozen? ⟨w.heap.size+1,0,none⟩=false:=z0
 have Z1:(W.drewN nq).frozen? ⟨w.heap.size+1,1,none⟩=false:=z1
 have HB2:Hid (Below w.heap.size w (W.drewN nq)):=HB.out.trans (z0u _ _ _)
 generalize W.drewN nq=V at *
 refine z9o 22 (by kernel_rfl) (by kernel_rfl) ?_
 simp only[List.take_succ_cons,List.take_zero,List.drop_succ_cons,List.drop_zero]
 still_step
 still_call (z4k _ _ _ Hm _)
 still_step
 still_step
 still_call (z4k _ _ _ Hm _)
 still_step
 still_step
 still_step
 still_call (z4k _ _ _ Hm _)
 still_step
 still_step
 still_step
 still_call (z4k _ _ _ Hm _)
 still_step
 still_step
 still_step
 still_step
 still_step
 still_step
 still_step
 still_step
 still_step
 refine wpStill_nil ?_
 go_wp2_with fail
 apply bodyPost_ret (hd:=rfl)
 focus (simp[results,Tryz.results37,go_sem,Q0,Q1];rfl)
 refine⟨z7x ?_ rfl,?_⟩
 ·have e:putV ⟨s.toList,d,a,b,m⟩=putF ⟨74,o,g,f⟩ d a b m:=by unfold putV;rw[HP.out]
  rw[e]
  simp only[putF]
  have Xt':M/1048576%2=t:=Xt.out
  have Xv':M/2%1024=v:=Xv.out
  have Xx':M/4096%256=x:=Xx.out
  have Xu':M/2048%2=u:=Xu.out
  rw[HMM.out,Xt',Xv',Xx',Xu']
  exact or_J ⟨ct,Ct⟩ ⟨cv,Cv⟩ ⟨cu,Cu⟩ ⟨cx,Cx⟩ ⟨d0,d1⟩ ⟨o0,o1⟩
 ·exact ((HB2.out.drew.setCell (by simp) _).setCell (by simp) _)
theorem put_87 (s:ByteArray) (d a b m o g f:Int) (hm:mayV ⟨s.toList,d,a,b,m⟩=true) (hp:z0q s.toList=⟨87,o,g,f⟩) (hk:z4j ⟨87,o,g,f⟩) (w:World) :
  Calls Tryz.prog 37 #[.agg #[.string s,.int .i64 d,.int .i64 a,.int .i64 b,.int .i32 m]] w fun e w'=>e=.returned (.agg #[.int .u32 (putV ⟨s.toList,d,a,b,m⟩),.int .i64 0])∧Below w.heap.size w w':=by
 have HM:Hid (∀ w,Calls Tryz.prog 63 #[.agg #[.string s,.int .i64 d,.int .i64 a,.int .i64 b,.int .i32 m]] w fun e w'=>e=.returned (.bool true)∧Below w.heap.size w w'):=by
  intro w
  have h:=rMay s d a b m w
  rw[hm] at h
  exact h
 have HF:Hid (∀ w,Calls Tryz.prog 36 #[.string s] w fun e w'=>e=.returned (.agg #[.int .u8 87,.int .u32 o,.int .u32 g,.int .u32 f])∧w'=w.alloc (.cells #[.int .u8 87,.int .u32 o,.int .u32 g,.int .u32 f] 78)):=z2v s 87 o g f hp
 have HR:Hid (regV d=true∧regV a=true∧regV b=true):=by
  have h:=hm
  simp[mayV,mayF] at h
  exact⟨h.1.1.1,h.1.1.2,h.1.2⟩
 have rd:=(z1f d).mp HR.out.1
 have ra:=(z1f a).mp HR.out.2.1
 have rb:=(z1f b).mp HR.out.2.2
 have ud:IntKind.u32.wrap d=d:=by rw[IntKind.wrap_u32'];omega
 have ua:IntKind.u32.wrap a=a:=by rw[IntKind.wrap_u32'];omega
 have ub:IntKind.u32.wrap b=b:=by rw[IntKind.wrap_u32'];omega
 have um:=IntKind.wrap_u32' m
 have Hm:Hid (U32 (m%4294967296)):=⟨by omega,by omega⟩
 generalize hM:m%4294967296=M at *
 have HMM:Hid (m%4294967296=M):=hM
 have HH:Hid (mayV ⟨s.toList,d,a,b,m⟩=true):=hm
 have HP:Hid (z0q s.toList=⟨87,o,g,f⟩):=hp
 unfold z4j at hk
 simp at hk
 obtain⟨o0,o1⟩:=hk
 obtain⟨d0,d1⟩:=rd
 obtain⟨a0,a1⟩:=ra
 obtain⟨b0,b1⟩:=rb
 have M0:0≤M:=by omega
 have M1:M<4294967296:=by omega
 clear hm hp hM
 go_enter Tryz.func37,Tryz.ntmps37
 go_wp2_with fail
 refine (HM _).mono ?_
 rintro e w1 ⟨rfl,hb⟩
 obtain⟨hc,hf⟩:=bcell hb
 have hz:=hb.size
 simp at hz
 go_wp2_with fail
 refine (HF _).mono ?_
 rintro e w' ⟨rfl,rfl⟩
 go_wp2_with fail
 obtain⟨k0,k1,k2,k3,k4,q0,q1,z0,z1,f0',f1',f2',f3',bW⟩:=z5b (k:=87) (o:=o) (g:=g) (f:=f) hb
 have HB:Hid _:=bW
 generalize (w1.alloc (.cells #[.int .u8 87,.int .u32 o,.int .u32 g,.int .u32 f] 78)).alloc (.cells #[.int .u8 87,.int .u32 o,.int .u32 g,.int .u32 f] 78)=W at *
 generalize hgf:w1.heap.size+1=G at *
 clear hb hc hf hz bW hgf
 go_quiet (fail)
 go_wp2_with (go_at_call 46;refine (z4k _ _ _ Hm _).mono ?_;rintro e w' ⟨rfl,rfl⟩)
 apply bodyPost_ret (hd:=rfl)
 focus (simp[results,Tryz.results37,go_sem,q0,q1];rfl)
 refine⟨z7x ?_ rfl,?_⟩
 ·have e:putV ⟨s.toList,d,a,b,m⟩=putF ⟨87,o,g,f⟩ d a b m:=by unfold putV;rw[HP.out]
  rw[e]
  simp only[putF]
  rfl
 ·exact (((HB.out.trans (z0u _ _ _)).setCell (by simp) _).setCell (by simp) _)
theorem ws12 {q:Int} (h0:0≤q) (h1:q<4096):wrap32 (z2g q 12)=sx 2048 4096 q:=by
 have e:z2g q 12=wrap32 (q*1048576%4294967296)/1048576%4294967296:=rfl
 rw[e];unfold wrap32 sx;split <;> omega
theorem ws13 {q:Int} (h0:0≤q) (h1:q<8192):wrap32 (z2g q 13)=sx 4096 8192 q:=by
 have e:z2g q 13=wrap32 (q*524288%4294967296)/524288%4294967296:=rfl
 rw[e];unfold wrap32 sx;split <;> omega
theorem ws21 {q:Int} (h0:0≤q) (h1:q<2097152):wrap32 (z2g q 21)=sx 1048576 2097152 q:=by
 have e:z2g q 21=wrap32 (q*2048%4294967296)/2048%4294967296:=rfl
 rw[e];unfold wrap32 sx;split <;> omega
theorem rSextX (x n:Int) (hx:U32 x) (c1:1≤n) (c2:n≤32) (w:World) :
  Calls Tryz.prog 81 #[.int .u32 x,.int .i64 n] w fun e w'=>e=.returned (.int .u32 (z2g x n))∧w'=w.alloc (.cells #[.int .u32 (z2g x n),.int .i64 0] 81):=by
 have e:z2g x n=wrap32 (x*2 ^ (32-n).toNat%4294967296)/2 ^ (32-n).toNat%4294967296:=by unfold z2g;rw[if_neg (by omega)]
 rw[e]
 have Hs:Hid (U32 (x*2 ^ (32-n).toNat%4294967296)):=⟨Int.emod_nonneg _ (by omega),Int.emod_lt_of_pos _ (by omega)⟩
 clear e
 obtain⟨h0,h1⟩:=hx
 have hfld:=fld0
 go_enter Tryz.func81,Tryz.ntmps81
 go_wp2_with (first | (go_at_call 84;refine (rsigned _ Hs _).mono ?_;rintro e w' ⟨rfl,rfl⟩) | (go_at_call 85;refine (rlow _ _).mono ?_;rintro e w' ⟨rfl,rfl⟩))
 go_ret
 exact⟨rfl,rfl⟩
theorem ins_of {s:ByteArray} {d a b m d' a' b' m':Int} (h1:d=d') (h2:a=a') (h3:b=b') (h4:m=m'):Ending.returned (.agg #[.string s,.int .i64 d,.int .i64 a,.int .i64 b,.int .i32 m])=.returned (.agg #[.string s,.int .i64 d',.int .i64 a',.int .i64 b',.int .i32 m']):=by rw[h1,h2,h3,h4]
theorem or_s {u d:Int} (hu:0≤u∧u<128) (hd:0≤d∧d<32) :
  bits .or .u32 (u*32) (d)=u*32+d:=by
 have e0:=z2w (x:=u*32) (y:=d) 5 (by omega) ⟨by omega,by omega⟩ (by omega) (by omega) (by omega)
 rw[e0]
theorem or_b {t u v z:Int} (ht:0≤t∧t<2) (hu:0≤u∧u<2) (hv:0≤v∧v<64) (hz:0≤z∧z<16) :
  bits .or .u32 (bits .or .u32 (bits .or .u32 (t*4096) (u*2048)) (v*32)) (z*2)=t*4096+u*2048+v*32+z*2:=by
 have e0:=z2w (x:=t*4096) (y:=u*2048) 12 (by omega) ⟨by omega,by omega⟩ (by omega) (by omega) (by omega)
 have e1:=z2w (x:=t*4096+u*2048) (y:=v*32) 11 (by omega) ⟨by omega,by omega⟩ (by omega) (by omega) (by omega)
 have e2:=z2w (x:=t*4096+u*2048+v*32) (y:=z*2) 5 (by omega) ⟨by omega,by omega⟩ (by omega) (by omega) (by omega)
 rw[e0,e1,e2]
theorem or_j {t z u v:Int} (ht:0≤t∧t<2) (hz:0≤z∧z<256) (hu:0≤u∧u<2) (hv:0≤v∧v<1024) :
  bits .or .u32 (bits .or .u32 (bits .or .u32 (t*1048576) (z*4096)) (u*2048)) (v*2)=t*1048576+z*4096+u*2048+v*2:=by
 have e0:=z2w (x:=t*1048576) (y:=z*4096) 20 (by omega) ⟨by omega,by omega⟩ (by omega) (by omega) (by omega)
 have e1:=z2w (x:=t*1048576+z*4096) (y:=u*2048) 12 (by omega) ⟨by omega,by omega⟩ (by omega) (by omega) (by omega)
 have e2:=z2w (x:=t*1048576+z*4096+u*2048) (y:=v*2) 11 (by omega) ⟨by omega,by omega⟩ (by omega) (by omega) (by omega)
 rw[e0,e1,e2]
theorem read_82 (s:ByteArray) (x o g f:Int) (hx:U32 x) (hp:z0q s.toList=⟨82,o,g,f⟩) (w:World) :
  Calls Tryz.prog 82 #[.string s,.int .u32 x] w fun e w'=>e=.returned (.agg #[.string s,.int .i64 (z2h 82 x),.int .i64 (z2j 82 x),.int .i64 (z2i 82 x),.int .i32 (z2a 82 x)])∧Below w.heap.size w w':=by
 have Hx:Hid (U32 x):=hx
 have HF:Hid (∀ w,Calls Tryz.prog 36 #[.string s] w fun e w'=>e=.returned (.agg #[.int .u8 82,.int .u32 o,.int .u32 g,.int .u32 f])∧w'=w.alloc (.cells #[.int .u8 82,.int .u32 o,.int .u32 g,.int .u32 f] 78)):=z2v s 82 o g f hp
 obtain⟨x0,x1⟩:=hx
 have hd:z0j x 7 5=x/2 ^ 7%2 ^ 5:=z0t Hx 7 5 (by omega) (by omega) (by omega)
 have bd:=z1e (x/2 ^ 7) (2 ^ 5) (by omega)
 generalize hxd:x/2 ^ 7%2 ^ 5=d at hd bd
 have Xd:Hid (x/128%32=d):=hxd
 obtain⟨cd,Cd⟩:=bd
 clear hxd
 have ha:z0j x 15 5=x/2 ^ 15%2 ^ 5:=z0t Hx 15 5 (by omega) (by omega) (by omega)
 have ba:=z1e (x/2 ^ 15) (2 ^ 5) (by omega)
 generalize hxa:x/2 ^ 15%2 ^ 5=a at ha ba
 have Xa:Hid (x/32768%32=a):=hxa
 obtain⟨ca,Ca⟩:=ba
 clear hxa
 have hb:z0j x 20 5=x/2 ^ 20%2 ^ 5:=z0t Hx 20 5 (by omega) (by omega) (by omega)
 have bb:=z1e (x/2 ^ 20) (2 ^ 5) (by omega)
 generalize hxb:x/2 ^ 20%2 ^ 5=b at hb bb
 have Xb:Hid (x/1048576%32=b):=hxb
 obtain⟨cb,Cb⟩:=bb
 clear hxb
 clear hp
 go_enter Tryz.func82,Tryz.ntmps82
 go_wp2_with (first | (go_at_call 36;refine (HF _).mono ?_;rintro e w' ⟨rfl,rfl⟩) | (go_at_call 46;refine (z4k _ _ _ Hx _).mono ?_;rintro e w' ⟨rfl,rfl⟩) | (go_at_call 81;refine (rSextX _ _ HQ (by omega) (by omega) _).mono ?_;rintro e w' ⟨rfl,rfl⟩))
 apply bodyPost_ret (hd:=rfl)
 focus (simp[results,Tryz.results82,go_sem];rfl)
 refine⟨ins_of ?_ ?_ ?_ ?_,?_⟩
 ·exact Xd.out.symm
 ·exact Xa.out.symm
 ·exact Xb.out.symm
 ·rfl
 ·(repeat' (first | exact Below.refl _ _ | refine Below.alloc ?_ ?_ _ | refine Below.setCell ?_ ?_ _)) <;> (first | (simp;done) | (simp;omega))
theorem read_73 (s:ByteArray) (x o g f:Int) (hx:U32 x) (hp:z0q s.toList=⟨73,o,g,f⟩) (w:World) :
  Calls Tryz.prog 82 #[.string s,.int .u32 x] w fun e w'=>e=.returned (.agg #[.string s,.int .i64 (z2h 73 x),.int .i64 (z2j 73 x),.int .i64 (z2i 73 x),.int .i32 (z2a 73 x)])∧Below w.heap.size w w':=by
 have Hx:Hid (U32 x):=hx
 have HF:Hid (∀ w,Calls Tryz.prog 36 #[.string s] w fun e w'=>e=.returned (.agg #[.int .u8 73,.int .u32 o,.int .u32 g,.int .u32 f])∧w'=w.alloc (.cells #[.int .u8 73,.int .u32 o,.int .u32 g,.int .u32 f] 78)):=z2v s 73 o g f hp
 obtain⟨x0,x1⟩:=hx
 have hd:z0j x 7 5=x/2 ^ 7%2 ^ 5:=z0t Hx 7 5 (by omega) (by omega) (by omega)
 have bd:=z1e (x/2 ^ 7) (2 ^ 5) (by omega)
 generalize hxd:x/2 ^ 7%2 ^ 5=d at hd bd
 have Xd:Hid (x/128%32=d):=hxd
 obtain⟨cd,Cd⟩:=bd
 clear hxd
 have ha:z0j x 15 5=x/2 ^ 15%2 ^ 5:=z0t Hx 15 5 (by omega) (by omega) (by omega)
 have ba:=z1e (x/2 ^ 15) (2 ^ 5) (by omega)
 generalize hxa:x/2 ^ 15%2 ^ 5=a at ha ba
 have Xa:Hid (x/32768%32=a):=hxa
 obtain⟨ca,Ca⟩:=ba
 clear hxa
 have hb:z0j x 20 5=x/2 ^ 20%2 ^ 5:=z0t Hx 20 5 (by omega) (by omega) (by omega)
 have bb:=z1e (x/2 ^ 20) (2 ^ 5) (by omega)
 generalize hxb:x/2 ^ 20%2 ^ 5=b at hb bb
 have Xb:Hid (x/1048576%32=b):=hxb
 obtain⟨cb,Cb⟩:=bb
 clear hxb
 have HQ0:0≤x/1048576∧x/1048576<4096:=by omega
 generalize hq:x/1048576=q at *
 have XQ:Hid (x/1048576=q):=hq
 have HQ:Hid (U32 q):=⟨by omega,by omega⟩
 have HN:=ws12 (q:=q) (by omega) (by omega)
 have HS:=(z8m q 12)
 generalize hS:z2g q 12=S at HN HS
 generalize hN:sx 2048 4096 q=N at HN
 have XN:Hid (sx 2048 4096 q=N):=hN
 obtain⟨S0,S1⟩:=HS
 clear hN
 clear hp
 go_enter Tryz.func82,Tryz.ntmps82
 go_wp2_with (first | (go_at_call 36;refine (HF _).mono ?_;rintro e w' ⟨rfl,rfl⟩) | (go_at_call 46;refine (z4k _ _ _ Hx _).mono ?_;rintro e w' ⟨rfl,rfl⟩) | (go_at_call 81;refine (rSextX _ _ HQ (by omega) (by omega) _).mono ?_;rintro e w' ⟨rfl,rfl⟩))
 apply bodyPost_ret (hd:=rfl)
 focus (simp[results,Tryz.results82,go_sem];rfl)
 refine⟨ins_of ?_ ?_ ?_ ?_,?_⟩
 ·exact Xd.out.symm
 ·exact Xa.out.symm
 ·rfl
 ·show N=sx 2048 4096 (x/1048576)
  rw[XQ.out];exact XN.out.symm
 ·(repeat' (first | exact Below.refl _ _ | refine Below.alloc ?_ ?_ _ | refine Below.setCell ?_ ?_ _)) <;> (first | (simp;done) | (simp;omega))
theorem read_67 (s:ByteArray) (x o g f:Int) (hx:U32 x) (hp:z0q s.toList=⟨67,o,g,f⟩) (w:World) :
  Calls Tryz.prog 82 #[.string s,.int .u32 x] w fun e w'=>e=.returned (.agg #[.string s,.int .i64 (z2h 67 x),.int .i64 (z2j 67 x),.int .i64 (z2i 67 x),.int .i32 (z2a 67 x)])∧Below w.heap.size w w':=by
 have Hx:Hid (U32 x):=hx
 have HF:Hid (∀ w,Calls Tryz.prog 36 #[.string s] w fun e w'=>e=.returned (.agg #[.int .u8 67,.int .u32 o,.int .u32 g,.int .u32 f])∧w'=w.alloc (.cells #[.int .u8 67,.int .u32 o,.int .u32 g,.int .u32 f] 78)):=z2v s 67 o g f hp
 obtain⟨x0,x1⟩:=hx
 have hd:z0j x 7 5=x/2 ^ 7%2 ^ 5:=z0t Hx 7 5 (by omega) (by omega) (by omega)
 have bd:=z1e (x/2 ^ 7) (2 ^ 5) (by omega)
 generalize hxd:x/2 ^ 7%2 ^ 5=d at hd bd
 have Xd:Hid (x/128%32=d):=hxd
 obtain⟨cd,Cd⟩:=bd
 clear hxd
 have ha:z0j x 15 5=x/2 ^ 15%2 ^ 5:=z0t Hx 15 5 (by omega) (by omega) (by omega)
 have ba:=z1e (x/2 ^ 15) (2 ^ 5) (by omega)
 generalize hxa:x/2 ^ 15%2 ^ 5=a at ha ba
 have Xa:Hid (x/32768%32=a):=hxa
 obtain⟨ca,Ca⟩:=ba
 clear hxa
 have hb:z0j x 20 5=x/2 ^ 20%2 ^ 5:=z0t Hx 20 5 (by omega) (by omega) (by omega)
 have bb:=z1e (x/2 ^ 20) (2 ^ 5) (by omega)
 generalize hxb:x/2 ^ 20%2 ^ 5=b at hb bb
 have Xb:Hid (x/1048576%32=b):=hxb
 obtain⟨cb,Cb⟩:=bb
 clear hxb
 clear hp
 go_enter Tryz.func82,Tryz.ntmps82
 go_wp2_with (first | (go_at_call 36;refine (HF _).mono ?_;rintro e w' ⟨rfl,rfl⟩) | (go_at_call 46;refine (z4k _ _ _ Hx _).mono ?_;rintro e w' ⟨rfl,rfl⟩) | (go_at_call 81;refine (rSextX _ _ HQ (by omega) (by omega) _).mono ?_;rintro e w' ⟨rfl,rfl⟩))
 apply bodyPost_ret (hd:=rfl)
 focus (simp[results,Tryz.results82,go_sem];rfl)
 refine⟨ins_of ?_ ?_ ?_ ?_,?_⟩
 ·exact Xd.out.symm
 ·exact Xa.out.symm
 ·rfl
 ·rfl
 ·(repeat' (first | exact Below.refl _ _ | refine Below.alloc ?_ ?_ _ | refine Below.setCell ?_ ?_ _)) <;> (first | (simp;done) | (simp;omega))
theorem read_83 (s:ByteArray) (x o g f:Int) (hx:U32 x) (hp:z0q s.toList=⟨83,o,g,f⟩) (w:World) :
  Calls Tryz.prog 82 #[.string s,.int .u32 x] w fun e w'=>e=.returned (.agg #[.string s,.int .i64 (z2h 83 x),.int .i64 (z2j 83 x),.int .i64 (z2i 83 x),.int .i32 (z2a 83 x)])∧Below w.heap.size w w':=by
 have Hx:Hid (U32 x):=hx
 have HF:Hid (∀ w,Calls Tryz.prog 36 #[.string s] w fun e w'=>e=.returned (.agg #[.int .u8 83,.int .u32 o,.int .u32 g,.int .u32 f])∧w'=w.alloc (.cells #[.int .u8 83,.int .u32 o,.int .u32 g,.int .u32 f] 78)):=z2v s 83 o g f hp
 obtain⟨x0,x1⟩:=hx
 have hd:z0j x 7 5=x/2 ^ 7%2 ^ 5:=z0t Hx 7 5 (by omega) (by omega) (by omega)
 have bd:=z1e (x/2 ^ 7) (2 ^ 5) (by omega)
 generalize hxd:x/2 ^ 7%2 ^ 5=d at hd bd
 have Xd:Hid (x/128%32=d):=hxd
 obtain⟨cd,Cd⟩:=bd
 clear hxd
 have ha:z0j x 15 5=x/2 ^ 15%2 ^ 5:=z0t Hx 15 5 (by omega) (by omega) (by omega)
 have ba:=z1e (x/2 ^ 15) (2 ^ 5) (by omega)
 generalize hxa:x/2 ^ 15%2 ^ 5=a at ha ba
 have Xa:Hid (x/32768%32=a):=hxa
 obtain⟨ca,Ca⟩:=ba
 clear hxa
 have hb:z0j x 20 5=x/2 ^ 20%2 ^ 5:=z0t Hx 20 5 (by omega) (by omega) (by omega)
 have bb:=z1e (x/2 ^ 20) (2 ^ 5) (by omega)
 generalize hxb:x/2 ^ 20%2 ^ 5=b at hb bb
 have Xb:Hid (x/1048576%32=b):=hxb
 obtain⟨cb,Cb⟩:=bb
 clear hxb
 clear hp
 go_enter Tryz.func82,Tryz.ntmps82
 go_wp2_with (first | (go_at_call 36;refine (HF _).mono ?_;rintro e w' ⟨rfl,rfl⟩) | (go_at_call 46;refine (z4k _ _ _ Hx _).mono ?_;rintro e w' ⟨rfl,rfl⟩) | (go_at_call 81;refine (rSextX _ _ HQ (by omega) (by omega) _).mono ?_;rintro e w' ⟨rfl,rfl⟩))
 apply bodyPost_ret (hd:=rfl)
 focus (simp[results,Tryz.results82,go_sem];rfl)
 refine⟨ins_of ?_ ?_ ?_ ?_,?_⟩
 ·exact Xd.out.symm
 ·exact Xa.out.symm
 ·rfl
 ·exact Xb.out.symm
 ·(repeat' (first | exact Below.refl _ _ | refine Below.alloc ?_ ?_ _ | refine Below.setCell ?_ ?_ _)) <;> (first | (simp;done) | (simp;omega))
theorem read_115 (s:ByteArray) (x o g f:Int) (hx:U32 x) (hp:z0q s.toList=⟨115,o,g,f⟩) (w:World) :
  Calls Tryz.prog 82 #[.string s,.int .u32 x] w fun e w'=>e=.returned (.agg #[.string s,.int .i64 (z2h 115 x),.int .i64 (z2j 115 x),.int .i64 (z2i 115 x),.int .i32 (z2a 115 x)])∧Below w.heap.size w w':=by
 have Hx:Hid (U32 x):=hx
 have HF:Hid (∀ w,Calls Tryz.prog 36 #[.string s] w fun e w'=>e=.returned (.agg #[.int .u8 115,.int .u32 o,.int .u32 g,.int .u32 f])∧w'=w.alloc (.cells #[.int .u8 115,.int .u32 o,.int .u32 g,.int .u32 f] 78)):=z2v s 115 o g f hp
 obtain⟨x0,x1⟩:=hx
 have hd:z0j x 7 5=x/2 ^ 7%2 ^ 5:=z0t Hx 7 5 (by omega) (by omega) (by omega)
 have bd:=z1e (x/2 ^ 7) (2 ^ 5) (by omega)
 generalize hxd:x/2 ^ 7%2 ^ 5=d at hd bd
 have Xd:Hid (x/128%32=d):=hxd
 obtain⟨cd,Cd⟩:=bd
 clear hxd
 have ha:z0j x 15 5=x/2 ^ 15%2 ^ 5:=z0t Hx 15 5 (by omega) (by omega) (by omega)
 have ba:=z1e (x/2 ^ 15) (2 ^ 5) (by omega)
 generalize hxa:x/2 ^ 15%2 ^ 5=a at ha ba
 have Xa:Hid (x/32768%32=a):=hxa
 obtain⟨ca,Ca⟩:=ba
 clear hxa
 have hb:z0j x 20 5=x/2 ^ 20%2 ^ 5:=z0t Hx 20 5 (by omega) (by omega) (by omega)
 have bb:=z1e (x/2 ^ 20) (2 ^ 5) (by omega)
 generalize hxb:x/2 ^ 20%2 ^ 5=b at hb bb
 have Xb:Hid (x/1048576%32=b):=hxb
 obtain⟨cb,Cb⟩:=bb
 clear hxb
 have hu:z0j x 25 7=x/2 ^ 25%2 ^ 7:=z0t Hx 25 7 (by omega) (by omega) (by omega)
 have bu:=z1e (x/2 ^ 25) (2 ^ 7) (by omega)
 generalize hxu:x/2 ^ 25%2 ^ 7=u at hu bu
 have Xu:Hid (x/33554432%128=u):=hxu
 obtain⟨cu,Cu⟩:=bu
 clear hxu
 have ho:=or_s (u:=u) (d:=d) ⟨cu,Cu⟩ ⟨cd,Cd⟩
 generalize hq:u*32+d=q at ho
 have XQ:Hid (u*32+d=q):=hq
 have q0:0≤q:=by omega
 have q1:q<4096:=by omega
 clear hq
 have HQ:Hid (U32 q):=⟨by omega,by omega⟩
 have HN:=ws12 (q:=q) (by omega) (by omega)
 have HS:=(z8m q 12)
 generalize hS:z2g q 12=S at HN HS
 generalize hN:sx 2048 4096 q=N at HN
 have XN:Hid (sx 2048 4096 q=N):=hN
 obtain⟨S0,S1⟩:=HS
 clear hN
 clear hp
 go_enter Tryz.func82,Tryz.ntmps82
 go_wp2_with (first | (go_at_call 36;refine (HF _).mono ?_;rintro e w' ⟨rfl,rfl⟩) | (go_at_call 46;refine (z4k _ _ _ Hx _).mono ?_;rintro e w' ⟨rfl,rfl⟩) | (go_at_call 81;refine (rSextX _ _ HQ (by omega) (by omega) _).mono ?_;rintro e w' ⟨rfl,rfl⟩))
 apply bodyPost_ret (hd:=rfl)
 focus (simp[results,Tryz.results82,go_sem];rfl)
 refine⟨ins_of ?_ ?_ ?_ ?_,?_⟩
 ·rfl
 ·exact Xa.out.symm
 ·exact Xb.out.symm
 ·show N=sx 2048 4096 (x/33554432*32+x/128%32)
  have e:x/33554432=u:=by have:=Xu.out;omega
  rw[e,Xd.out,XQ.out];exact XN.out.symm
 ·(repeat' (first | exact Below.refl _ _ | refine Below.alloc ?_ ?_ _ | refine Below.setCell ?_ ?_ _)) <;> (first | (simp;done) | (simp;omega))
theorem read_66 (s:ByteArray) (x o g f:Int) (hx:U32 x) (hp:z0q s.toList=⟨66,o,g,f⟩) (w:World) :
  Calls Tryz.prog 82 #[.string s,.int .u32 x] w fun e w'=>e=.returned (.agg #[.string s,.int .i64 (z2h 66 x),.int .i64 (z2j 66 x),.int .i64 (z2i 66 x),.int .i32 (z2a 66 x)])∧Below w.heap.size w w':=by
 have Hx:Hid (U32 x):=hx
 have HF:Hid (∀ w,Calls Tryz.prog 36 #[.string s] w fun e w'=>e=.returned (.agg #[.int .u8 66,.int .u32 o,.int .u32 g,.int .u32 f])∧w'=w.alloc (.cells #[.int .u8 66,.int .u32 o,.int .u32 g,.int .u32 f] 78)):=z2v s 66 o g f hp
 obtain⟨x0,x1⟩:=hx
 have hd:z0j x 7 5=x/2 ^ 7%2 ^ 5:=z0t Hx 7 5 (by omega) (by omega) (by omega)
 have bd:=z1e (x/2 ^ 7) (2 ^ 5) (by omega)
 generalize hxd:x/2 ^ 7%2 ^ 5=d at hd bd
 have Xd:Hid (x/128%32=d):=hxd
 obtain⟨cd,Cd⟩:=bd
 clear hxd
 have ha:z0j x 15 5=x/2 ^ 15%2 ^ 5:=z0t Hx 15 5 (by omega) (by omega) (by omega)
 have ba:=z1e (x/2 ^ 15) (2 ^ 5) (by omega)
 generalize hxa:x/2 ^ 15%2 ^ 5=a at ha ba
 have Xa:Hid (x/32768%32=a):=hxa
 obtain⟨ca,Ca⟩:=ba
 clear hxa
 have hb:z0j x 20 5=x/2 ^ 20%2 ^ 5:=z0t Hx 20 5 (by omega) (by omega) (by omega)
 have bb:=z1e (x/2 ^ 20) (2 ^ 5) (by omega)
 generalize hxb:x/2 ^ 20%2 ^ 5=b at hb bb
 have Xb:Hid (x/1048576%32=b):=hxb
 obtain⟨cb,Cb⟩:=bb
 clear hxb
 have ht:z0j x 31 1=x/2 ^ 31%2 ^ 1:=z0t Hx 31 1 (by omega) (by omega) (by omega)
 have bt:=z1e (x/2 ^ 31) (2 ^ 1) (by omega)
 generalize hxt:x/2 ^ 31%2 ^ 1=t at ht bt
 have Xt:Hid (x/2147483648%2=t):=hxt
 obtain⟨ct,Ct⟩:=bt
 clear hxt
 have hu:z0j x 7 1=x/2 ^ 7%2 ^ 1:=z0t Hx 7 1 (by omega) (by omega) (by omega)
 have bu:=z1e (x/2 ^ 7) (2 ^ 1) (by omega)
 generalize hxu:x/2 ^ 7%2 ^ 1=u at hu bu
 have Xu:Hid (x/128%2=u):=hxu
 obtain⟨cu,Cu⟩:=bu
 clear hxu
 have hv:z0j x 25 6=x/2 ^ 25%2 ^ 6:=z0t Hx 25 6 (by omega) (by omega) (by omega)
 have bv:=z1e (x/2 ^ 25) (2 ^ 6) (by omega)
 generalize hxv:x/2 ^ 25%2 ^ 6=v at hv bv
 have Xv:Hid (x/33554432%64=v):=hxv
 obtain⟨cv,Cv⟩:=bv
 clear hxv
 have hz:z0j x 8 4=x/2 ^ 8%2 ^ 4:=z0t Hx 8 4 (by omega) (by omega) (by omega)
 have bz:=z1e (x/2 ^ 8) (2 ^ 4) (by omega)
 generalize hxz:x/2 ^ 8%2 ^ 4=z at hz bz
 have Xz:Hid (x/256%16=z):=hxz
 obtain⟨cz,Cz⟩:=bz
 clear hxz
 have ho:=or_b (t:=t) (u:=u) (v:=v) (z:=z) ⟨ct,Ct⟩ ⟨cu,Cu⟩ ⟨cv,Cv⟩ ⟨cz,Cz⟩
 generalize hq:t*4096+u*2048+v*32+z*2=q at ho
 have XQ:Hid (t*4096+u*2048+v*32+z*2=q):=hq
 have q0:0≤q:=by omega
 have q1:q<8192:=by omega
 clear hq
 have HQ:Hid (U32 q):=⟨by omega,by omega⟩
 have HN:=ws13 (q:=q) (by omega) (by omega)
 have HS:=(z8m q 13)
 generalize hS:z2g q 13=S at HN HS
 generalize hN:sx 4096 8192 q=N at HN
 have XN:Hid (sx 4096 8192 q=N):=hN
 obtain⟨S0,S1⟩:=HS
 clear hN
 clear hp
 go_enter Tryz.func82,Tryz.ntmps82
 go_wp2_with (first | (go_at_call 36;refine (HF _).mono ?_;rintro e w' ⟨rfl,rfl⟩) | (go_at_call 46;refine (z4k _ _ _ Hx _).mono ?_;rintro e w' ⟨rfl,rfl⟩) | (go_at_call 81;refine (rSextX _ _ HQ (by omega) (by omega) _).mono ?_;rintro e w' ⟨rfl,rfl⟩))
 apply bodyPost_ret (hd:=rfl)
 focus (simp[results,Tryz.results82,go_sem];rfl)
 refine⟨ins_of ?_ ?_ ?_ ?_,?_⟩
 ·rfl
 ·exact Xa.out.symm
 ·exact Xb.out.symm
 ·show N=sx 4096 8192 (x/2147483648*4096+x/128%2*2048+x/33554432%64*32+x/256%16*2)
  have e:x/2147483648=t:=by have:=Xt.out;omega
  rw[e,Xu.out,Xv.out,Xz.out,XQ.out];exact XN.out.symm
 ·(repeat' (first | exact Below.refl _ _ | refine Below.alloc ?_ ?_ _ | refine Below.setCell ?_ ?_ _)) <;> (first | (simp;done) | (simp;omega))
theorem read_85 (s:ByteArray) (x o g f:Int) (hx:U32 x) (hp:z0q s.toList=⟨85,o,g,f⟩) (w:World) :
  Calls Tryz.prog 82 #[.string s,.int .u32 x] w fun e w'=>e=.returned (.agg #[.string s,.int .i64 (z2h 85 x),.int .i64 (z2j 85 x),.int .i64 (z2i 85 x),.int .i32 (z2a 85 x)])∧Below w.heap.size w w':=by
 have Hx:Hid (U32 x):=hx
 have HF:Hid (∀ w,Calls Tryz.prog 36 #[.string s] w fun e w'=>e=.returned (.agg #[.int .u8 85,.int .u32 o,.int .u32 g,.int .u32 f])∧w'=w.alloc (.cells #[.int .u8 85,.int .u32 o,.int .u32 g,.int .u32 f] 78)):=z2v s 85 o g f hp
 obtain⟨x0,x1⟩:=hx
 have hd:z0j x 7 5=x/2 ^ 7%2 ^ 5:=z0t Hx 7 5 (by omega) (by omega) (by omega)
 have bd:=z1e (x/2 ^ 7) (2 ^ 5) (by omega)
 generalize hxd:x/2 ^ 7%2 ^ 5=d at hd bd
 have Xd:Hid (x/128%32=d):=hxd
 obtain⟨cd,Cd⟩:=bd
 clear hxd
 have ha:z0j x 15 5=x/2 ^ 15%2 ^ 5:=z0t Hx 15 5 (by omega) (by omega) (by omega)
 have ba:=z1e (x/2 ^ 15) (2 ^ 5) (by omega)
 generalize hxa:x/2 ^ 15%2 ^ 5=a at ha ba
 have Xa:Hid (x/32768%32=a):=hxa
 obtain⟨ca,Ca⟩:=ba
 clear hxa
 have hb:z0j x 20 5=x/2 ^ 20%2 ^ 5:=z0t Hx 20 5 (by omega) (by omega) (by omega)
 have bb:=z1e (x/2 ^ 20) (2 ^ 5) (by omega)
 generalize hxb:x/2 ^ 20%2 ^ 5=b at hb bb
 have Xb:Hid (x/1048576%32=b):=hxb
 obtain⟨cb,Cb⟩:=bb
 clear hxb
 clear hp
 go_enter Tryz.func82,Tryz.ntmps82
 go_wp2_with (first | (go_at_call 36;refine (HF _).mono ?_;rintro e w' ⟨rfl,rfl⟩) | (go_at_call 46;refine (z4k _ _ _ Hx _).mono ?_;rintro e w' ⟨rfl,rfl⟩) | (go_at_call 81;refine (rSextX _ _ HQ (by omega) (by omega) _).mono ?_;rintro e w' ⟨rfl,rfl⟩))
 apply bodyPost_ret (hd:=rfl)
 focus (simp[results,Tryz.results82,go_sem];rfl)
 refine⟨ins_of ?_ ?_ ?_ ?_,?_⟩
 ·exact Xd.out.symm
 ·rfl
 ·rfl
 ·rfl
 ·(repeat' (first | exact Below.refl _ _ | refine Below.alloc ?_ ?_ _ | refine Below.setCell ?_ ?_ _)) <;> (first | (simp;done) | (simp;omega))
theorem read_74 (s:ByteArray) (x o g f:Int) (hx:U32 x) (hp:z0q s.toList=⟨74,o,g,f⟩) (w:World) :
  Calls Tryz.prog 82 #[.string s,.int .u32 x] w fun e w'=>e=.returned (.agg #[.string s,.int .i64 (z2h 74 x),.int .i64 (z2j 74 x),.int .i64 (z2i 74 x),.int .i32 (z2a 74 x)])∧Below w.heap.size w w':=by
 have Hx:Hid (U32 x):=hx
 have HF:Hid (∀ w,Calls Tryz.prog 36 #[.string s] w fun e w'=>e=.returned (.agg #[.int .u8 74,.int .u32 o,.int .u32 g,.int .u32 f])∧w'=w.alloc (.cells #[.int .u8 74,.int .u32 o,.int .u32 g,.int .u32 f] 78)):=z2v s 74 o g f hp
 obtain⟨x0,x1⟩:=hx
 have hd:z0j x 7 5=x/2 ^ 7%2 ^ 5:=z0t Hx 7 5 (by omega) (by omega) (by omega)
 have bd:=z1e (x/2 ^ 7) (2 ^ 5) (by omega)
 generalize hxd:x/2 ^ 7%2 ^ 5=d at hd bd
 have Xd:Hid (x/128%32=d):=hxd
 obtain⟨cd,Cd⟩:=bd
 clear hxd
 have ha:z0j x 15 5=x/2 ^ 15%2 ^ 5:=z0t Hx 15 5 (by omega) (by omega) (by omega)
 have ba:=z1e (x/2 ^ 15) (2 ^ 5) (by omega)
 generalize hxa:x/2 ^ 15%2 ^ 5=a at ha ba
 have Xa:Hid (x/32768%32=a):=hxa
 obtain⟨ca,Ca⟩:=ba
 clear hxa
 have hb:z0j x 20 5=x/2 ^ 20%2 ^ 5:=z0t Hx 20 5 (by omega) (by omega) (by omega)
 have bb:=z1e (x/2 ^ 20) (2 ^ 5) (by omega)
 generalize hxb:x/2 ^ 20%2 ^ 5=b at hb bb
 have Xb:Hid (x/1048576%32=b):=hxb
 obtain⟨cb,Cb⟩:=bb
 clear hxb
 have ht:z0j x 31 1=x/2 ^ 31%2 ^ 1:=z0t Hx 31 1 (by omega) (by omega) (by omega)
 have bt:=z1e (x/2 ^ 31) (2 ^ 1) (by omega)
 generalize hxt:x/2 ^ 31%2 ^ 1=t at ht bt
 have Xt:Hid (x/2147483648%2=t):=hxt
 obtain⟨ct,Ct⟩:=bt
 clear hxt
 have hu:z0j x 20 1=x/2 ^ 20%2 ^ 1:=z0t Hx 20 1 (by omega) (by omega) (by omega)
 have bu:=z1e (x/2 ^ 20) (2 ^ 1) (by omega)
 generalize hxu:x/2 ^ 20%2 ^ 1=u at hu bu
 have Xu:Hid (x/1048576%2=u):=hxu
 obtain⟨cu,Cu⟩:=bu
 clear hxu
 have hv:z0j x 21 10=x/2 ^ 21%2 ^ 10:=z0t Hx 21 10 (by omega) (by omega) (by omega)
 have bv:=z1e (x/2 ^ 21) (2 ^ 10) (by omega)
 generalize hxv:x/2 ^ 21%2 ^ 10=v at hv bv
 have Xv:Hid (x/2097152%1024=v):=hxv
 obtain⟨cv,Cv⟩:=bv
 clear hxv
 have hz:z0j x 12 8=x/2 ^ 12%2 ^ 8:=z0t Hx 12 8 (by omega) (by omega) (by omega)
 have bz:=z1e (x/2 ^ 12) (2 ^ 8) (by omega)
 generalize hxz:x/2 ^ 12%2 ^ 8=z at hz bz
 have Xz:Hid (x/4096%256=z):=hxz
 obtain⟨cz,Cz⟩:=bz
 clear hxz
 have ho:=or_j (t:=t) (z:=z) (u:=u) (v:=v) ⟨ct,Ct⟩ ⟨cz,Cz⟩ ⟨cu,Cu⟩ ⟨cv,Cv⟩
 generalize hq:t*1048576+z*4096+u*2048+v*2=q at ho
 have XQ:Hid (t*1048576+z*4096+u*2048+v*2=q):=hq
 have q0:0≤q:=by omega
 have q1:q<2097152:=by omega
 clear hq
 have HQ:Hid (U32 q):=⟨by omega,by omega⟩
 have HN:=ws21 (q:=q) (by omega) (by omega)
 have HS:=(z8m q 21)
 generalize hS:z2g q 21=S at HN HS
 generalize hN:sx 1048576 2097152 q=N at HN
 have XN:Hid (sx 1048576 2097152 q=N):=hN
 obtain⟨S0,S1⟩:=HS
 clear hN
 clear hp
 go_enter Tryz.func82,Tryz.ntmps82
 go_wp2_with (first | (go_at_call 36;refine (HF _).mono ?_;rintro e w' ⟨rfl,rfl⟩) | (go_at_call 46;refine (z4k _ _ _ Hx _).mono ?_;rintro e w' ⟨rfl,rfl⟩) | (go_at_call 81;refine (rSextX _ _ HQ (by omega) (by omega) _).mono ?_;rintro e w' ⟨rfl,rfl⟩))
 apply bodyPost_ret (hd:=rfl)
 focus (simp[results,Tryz.results82,go_sem];rfl)
 refine⟨ins_of ?_ ?_ ?_ ?_,?_⟩
 ·exact Xd.out.symm
 ·rfl
 ·rfl
 ·show N=sx 1048576 2097152 (x/2147483648*1048576+x/4096%256*4096+x/1048576%2*2048+x/2097152%1024*2)
  have e:x/2147483648=t:=by have:=Xt.out;omega
  rw[e,Xz.out,Xu.out,Xv.out,XQ.out];exact XN.out.symm
 ·(repeat' (first | exact Below.refl _ _ | refine Below.alloc ?_ ?_ _ | refine Below.setCell ?_ ?_ _)) <;> (first | (simp;done) | (simp;omega))
theorem read_87 (s:ByteArray) (x o g f:Int) (hx:U32 x) (hp:z0q s.toList=⟨87,o,g,f⟩) (w:World) :
  Calls Tryz.prog 82 #[.string s,.int .u32 x] w fun e w'=>e=.returned (.agg #[.string s,.int .i64 (z2h 87 x),.int .i64 (z2j 87 x),.int .i64 (z2i 87 x),.int .i32 (z2a 87 x)])∧Below w.heap.size w w':=by
 have Hx:Hid (U32 x):=hx
 have HF:Hid (∀ w,Calls Tryz.prog 36 #[.string s] w fun e w'=>e=.returned (.agg #[.int .u8 87,.int .u32 o,.int .u32 g,.int .u32 f])∧w'=w.alloc (.cells #[.int .u8 87,.int .u32 o,.int .u32 g,.int .u32 f] 78)):=z2v s 87 o g f hp
 obtain⟨x0,x1⟩:=hx
 have hd:z0j x 7 5=x/2 ^ 7%2 ^ 5:=z0t Hx 7 5 (by omega) (by omega) (by omega)
 have bd:=z1e (x/2 ^ 7) (2 ^ 5) (by omega)
 generalize hxd:x/2 ^ 7%2 ^ 5=d at hd bd
 have Xd:Hid (x/128%32=d):=hxd
 obtain⟨cd,Cd⟩:=bd
 clear hxd
 have ha:z0j x 15 5=x/2 ^ 15%2 ^ 5:=z0t Hx 15 5 (by omega) (by omega) (by omega)
 have ba:=z1e (x/2 ^ 15) (2 ^ 5) (by omega)
 generalize hxa:x/2 ^ 15%2 ^ 5=a at ha ba
 have Xa:Hid (x/32768%32=a):=hxa
 obtain⟨ca,Ca⟩:=ba
 clear hxa
 have hb:z0j x 20 5=x/2 ^ 20%2 ^ 5:=z0t Hx 20 5 (by omega) (by omega) (by omega)
 have bb:=z1e (x/2 ^ 20) (2 ^ 5) (by omega)
 generalize hxb:x/2 ^ 20%2 ^ 5=b at hb bb
 have Xb:Hid (x/1048576%32=b):=hxb
 obtain⟨cb,Cb⟩:=bb
 clear hxb
 clear hp
 go_enter Tryz.func82,Tryz.ntmps82
 go_wp2_with (first | (go_at_call 36;refine (HF _).mono ?_;rintro e w' ⟨rfl,rfl⟩) | (go_at_call 46;refine (z4k _ _ _ Hx _).mono ?_;rintro e w' ⟨rfl,rfl⟩) | (go_at_call 81;refine (rSextX _ _ HQ (by omega) (by omega) _).mono ?_;rintro e w' ⟨rfl,rfl⟩))
 apply bodyPost_ret (hd:=rfl)
 focus (simp[results,Tryz.results82,go_sem];rfl)
 refine⟨ins_of ?_ ?_ ?_ ?_,?_⟩
 ·rfl
 ·rfl
 ·rfl
 ·rfl
 ·(repeat' (first | exact Below.refl _ _ | refine Below.alloc ?_ ?_ _ | refine Below.setCell ?_ ?_ _)) <;> (first | (simp;done) | (simp;omega))
theorem rRead (s:ByteArray) (x:Int) (hx:U32 x) (hk:(z0q s.toList).k≠0) (w:World) :
  Calls Tryz.prog 82 #[.string s,.int .u32 x] w fun e w'=>e=.returned (.agg #[.string s,.int .i64 (z2h (z0q s.toList).k x),.int .i64 (z2j (z0q s.toList).k x),.int .i64 (z2i (z0q s.toList).k x),.int .i32 (z2a (z0q s.toList).k x)])∧Below w.heap.size w w':=by
 have h:=kinds s.toList
 cases hp:z0q s.toList with
 | mk k o g f=>
  rw[hp] at h hk
  simp only at h hk
  show Calls Tryz.prog 82 #[.string s,.int .u32 x] w fun e w'=>e=.returned (.agg #[.string s,.int .i64 (z2h k x),.int .i64 (z2j k x),.int .i64 (z2i k x),.int .i32 (z2a k x)])∧Below w.heap.size w w'
  rcases h with rfl | rfl | rfl | rfl | rfl | rfl | rfl | rfl | rfl | rfl
  ·exact read_82 s x o g f hx hp w
  ·exact read_73 s x o g f hx hp w
  ·exact read_83 s x o g f hx hp w
  ·exact read_115 s x o g f hx hp w
  ·exact read_66 s x o g f hx hp w
  ·exact read_85 s x o g f hx hp w
  ·exact read_74 s x o g f hx hp w
  ·exact read_67 s x o g f hx hp w
  ·exact read_87 s x o g f hx hp w
  ·exact absurd rfl hk
def putN (i:MIns):Int:=if mayV i then putV i else 0
def putE (i:MIns):Int:=if mayV i then 0 else 1
theorem rPut (s:ByteArray) (d a b m:Int) (w:World) :
  Calls Tryz.prog 37 #[.agg #[.string s,.int .i64 d,.int .i64 a,.int .i64 b,.int .i32 m]] w fun e w'=>e=.returned (.agg #[.int .u32 (putN ⟨s.toList,d,a,b,m⟩),.int .i64 (putE ⟨s.toList,d,a,b,m⟩)])∧Below w.heap.size w w':=by
 cases hm:mayV ⟨s.toList,d,a,b,m⟩ with
 | false=>
  unfold putN putE
  rw[hm]
  exact put_not s d a b m hm w
 | true=>
  unfold putN putE
  rw[hm]
  have hg:z4j (z0q s.toList):=z5o _ (may_known hm)
  cases hp:z0q s.toList with
  | mk k o g f=>
   have h:=kinds s.toList
   rw[hp] at h hg
   simp only at h
   rcases h with rfl | rfl | rfl | rfl | rfl | rfl | rfl | rfl | rfl | rfl
   ·exact put_82 s d a b m o g f hm hp hg w
   ·exact put_73 s d a b m o g f hm hp hg w
   ·exact put_83 s d a b m o g f hm hp hg w
   ·exact put_115 s d a b m o g f hm hp hg w
   ·exact put_66 s d a b m o g f hm hp hg w
   ·exact put_85 s d a b m o g f hm hp hg w
   ·exact put_74 s d a b m o g f hm hp hg w
   ·exact put_67 s d a b m o g f hm hp hg w
   ·exact put_87 s d a b m o g f hm hp hg w
   ·unfold z4j at hg
    simp at hg
def namesL:List Value:=[Value.string { data:=#[97,100,100] },Value.string { data:=#[115,117,98] },Value.string { data:=#[115,108,108] },Value.string { data:=#[115,108,116] },Value.string { data:=#[115,108,116,117] },Value.string { data:=#[120,111,114] },Value.string { data:=#[115,114,108] },Value.string { data:=#[115,114,97] },Value.string { data:=#[111,114] },Value.string { data:=#[97,110,100] },Value.string { data:=#[109,117,108] },Value.string { data:=#[109,117,108,104] },Value.string { data:=#[109,117,108,104,115,117] },Value.string { data:=#[109,117,108,104,117] },Value.string { data:=#[100,105,118] },Value.string { data:=#[100,105,118,117] },Value.string { data:=#[114,101,109] },Value.string { data:=#[114,101,109,117] }]
def moreL:List Value:=[Value.string { data:=#[97,100,100,105] },Value.string { data:=#[115,108,116,105] },Value.string { data:=#[115,108,116,105,117] },Value.string { data:=#[120,111,114,105] },Value.string { data:=#[111,114,105] },Value.string { data:=#[97,110,100,105] },Value.string { data:=#[115,108,108,105] },Value.string { data:=#[115,114,108,105] },Value.string { data:=#[115,114,97,105] },Value.string { data:=#[108,98] },Value.string { data:=#[108,104] },Value.string { data:=#[108,119] },Value.string { data:=#[108,98,117] },Value.string { data:=#[108,104,117] },Value.string { data:=#[106,97,108,114] },Value.string { data:=#[115,98] },Value.string { data:=#[115,104] },Value.string { data:=#[115,119] },Value.string { data:=#[98,101,113] },Value.string { data:=#[98,110,101] },Value.string { data:=#[98,108,116] },Value.string { data:=#[98,103,101] },Value.string { data:=#[98,108,116,117] },Value.string { data:=#[98,103,101,117] },Value.string { data:=#[108,117,105] },Value.string { data:=#[97,117,105,112,99] },Value.string { data:=#[106,97,108] },Value.string { data:=#[99,115,114,114,119] },Value.string { data:=#[99,115,114,114,115] },Value.string { data:=#[99,115,114,114,99] },Value.string { data:=#[101,99,97,108,108] },Value.string { data:=#[101,98,114,101,97,107] },Value.string { data:=#[109,114,101,116] },Value.string { data:=#[119,102,105] },Value.string { data:=#[102,101,110,99,101] }]
def opAt:Nat→ByteArray
 | 0=>{ data:=#[97,100,100] }
 | 1=>{ data:=#[115,117,98] }
 | 2=>{ data:=#[115,108,108] }
 | 3=>{ data:=#[115,108,116] }
 | 4=>{ data:=#[115,108,116,117] }
 | 5=>{ data:=#[120,111,114] }
 | 6=>{ data:=#[115,114,108] }
 | 7=>{ data:=#[115,114,97] }
 | 8=>{ data:=#[111,114] }
 | 9=>{ data:=#[97,110,100] }
 | 10=>{ data:=#[109,117,108] }
 | 11=>{ data:=#[109,117,108,104] }
 | 12=>{ data:=#[109,117,108,104,115,117] }
 | 13=>{ data:=#[109,117,108,104,117] }
 | 14=>{ data:=#[100,105,118] }
 | 15=>{ data:=#[100,105,118,117] }
 | 16=>{ data:=#[114,101,109] }
 | 17=>{ data:=#[114,101,109,117] }
 | 18=>{ data:=#[97,100,100,105] }
 | 19=>{ data:=#[115,108,116,105] }
 | 20=>{ data:=#[115,108,116,105,117] }
 | 21=>{ data:=#[120,111,114,105] }
 | 22=>{ data:=#[111,114,105] }
 | 23=>{ data:=#[97,110,100,105] }
 | 24=>{ data:=#[115,108,108,105] }
 | 25=>{ data:=#[115,114,108,105] }
 | 26=>{ data:=#[115,114,97,105] }
 | 27=>{ data:=#[108,98] }
 | 28=>{ data:=#[108,104] }
 | 29=>{ data:=#[108,119] }
 | 30=>{ data:=#[108,98,117] }
 | 31=>{ data:=#[108,104,117] }
 | 32=>{ data:=#[106,97,108,114] }
 | 33=>{ data:=#[115,98] }
 | 34=>{ data:=#[115,104] }
 | 35=>{ data:=#[115,119] }
 | 36=>{ data:=#[98,101,113] }
 | 37=>{ data:=#[98,110,101] }
 | 38=>{ data:=#[98,108,116] }
 | 39=>{ data:=#[98,103,101] }
 | 40=>{ data:=#[98,108,116,117] }
 | 41=>{ data:=#[98,103,101,117] }
 | 42=>{ data:=#[108,117,105] }
 | 43=>{ data:=#[97,117,105,112,99] }
 | 44=>{ data:=#[106,97,108] }
 | 45=>{ data:=#[99,115,114,114,119] }
 | 46=>{ data:=#[99,115,114,114,115] }
 | 47=>{ data:=#[99,115,114,114,99] }
 | 48=>{ data:=#[101,99,97,108,108] }
 | 49=>{ data:=#[101,98,114,101,97,107] }
 | 50=>{ data:=#[109,114,101,116] }
 | 51=>{ data:=#[119,102,105] }
 | _=>{ data:=#[102,101,110,99,101] }
theorem opAt_all (k:Nat) (h:k<53):(namesL++moreL)[k]?=some (.string (opAt k)):=by
 have h':k=0∨k=1∨k=2∨k=3∨k=4∨k=5∨k=6∨k=7∨k=8∨k=9∨k=10∨k=11∨k=12∨k=13∨k=14∨k=15∨k=16∨k=17∨k=18∨k=19∨k=20∨k=21∨k=22∨k=23∨k=24∨k=25∨k=26∨k=27∨k=28∨k=29∨k=30∨k=31∨k=32∨k=33∨k=34∨k=35∨k=36∨k=37∨k=38∨k=39∨k=40∨k=41∨k=42∨k=43∨k=44∨k=45∨k=46∨k=47∨k=48∨k=49∨k=50∨k=51∨k=52:=by omega
 rcases h' with rfl | rfl | rfl | rfl | rfl | rfl | rfl | rfl | rfl | rfl | rfl | rfl | rfl | rfl | rfl | rfl | rfl | rfl | rfl | rfl | rfl | rfl | rfl | rfl | rfl | rfl | rfl | rfl | rfl | rfl | rfl | rfl | rfl | rfl | rfl | rfl | rfl | rfl | rfl | rfl | rfl | rfl | rfl | rfl | rfl | rfl | rfl | rfl | rfl | rfl | rfl | rfl | rfl <;> rfl
theorem rNames (w:World) :
  Calls Tryz.prog 62 #[] w fun e w'=>e=.returned (.slice (some ⟨w.heap.size,0,none⟩) 18 18)∧w'=w.alloc (.cells namesL.toArray 9):=by
 go_enter Tryz.func62,Tryz.ntmps62
 go_wp2
 go_ret
 exact⟨rfl,rfl⟩
theorem infoS:(Tryz.prog.info? 9).map (fun i=>(i.zero,i.size,i.bytes))=some (some (.string ByteArray.empty),1,16):=by kernel_rfl
theorem rOps (w:World) :
  Calls Tryz.prog 35 #[] w fun e w'=>∃ g cap,e=.returned (.slice (some ⟨g,0,none⟩) 53 cap)∧w.heap.size≤g∧g<w'.heap.size∧Below w.heap.size w w'∧∀ k,k<53→w'.cell? ⟨g,k,none⟩=some (.string (opAt k)):=by
 obtain⟨i0,hi,hz0,hz1,hz2⟩:=info_parts infoS
 go_enter Tryz.func35,Tryz.ntmps35
 go_wp2_with (first | (go_at_call 62;refine (rNames _).mono ?_;rintro e w' ⟨rfl,rfl⟩) | (at_builtin;refine wpList_append_grows _ rfl (.tmp 1) (.tmp 2) 75 rfl 9 i0 (.string ByteArray.empty) 1 16 Tryz.underlying75 hi hz0 hz1 hz2 rfl (by decide) (some ⟨w.heap.size,0,none⟩) 18 18 namesL rfl (fun h=>by cases h) rfl ?c0 ⟨w.heap.size+1,0,none⟩ 35 35 moreL rfl rfl ?c1 ?c2 (by omega) (by unfold maxLen;omega) (by omega) ?grow))
 case c0=>
  intro b hb j u hj
  obtain rfl:=Option.some.inj hb
  rw[Addr.add_lit,Nat.zero_add,World.cell?_alloc_lt _ _ _ (by simp)]
  exact cell_new _ _ _ _ _ hj
 case c1=>
  intro j u hj
  have e:(w.alloc (.cells namesL.toArray 9)).heap.size=w.heap.size+1:=by simp
  rw[Addr.add_lit,Nat.zero_add,← e]
  exact cell_new _ _ _ _ _ hj
 case c2=>
  have h:moreL.all (fun u=>u.oneCell')=true:=by rfl
  exact fun u hu=>List.all_eq_true.mp h u hu
 case grow=>
  intro v' w' hown hgrow
  obtain⟨hl,⟨_,h0⟩ | ⟨g,cap,cur,rfl,hg,hh,h1,h2,h3,h4⟩⟩:=hown
  ·omega
  go_wp2
  go_ret
  refine⟨g,cap,rfl,by omega,?_,(((Below.refl _ _).alloc (Nat.le_refl _) _).alloc (by simp) _).grown hgrow (by simp;omega) (fun k h=>by cases h),?_⟩
  ·exact (Array.getElem?_eq_some_iff.mp hh).1
  ·intro k hk
   have h5:=opAt_all k hk
   rw[← h4,List.getElem?_take_of_lt (by omega)] at h5
   simp[World.cell?,hh]
   simpa using h5
theorem z7o:z3w.length=53:=by rfl
def z1d (k:Nat):List UInt8 × z5f:=z3w.getD k ([],noForm)
theorem z9b (k:Nat) (h:k<53):z3w[k]?=some (z1d k):=by
 unfold z1d
 rw[List.getD_eq_getElem?_getD]
 have:z3w[k]?=some (z3w[k]'(by rw[z7o];exact h)):=List.getElem?_eq_getElem _
 rw[this];rfl
theorem z6n (k:Nat) (h:k<53):z1d k∈z3w:=List.mem_of_getElem? (z9b k h)
theorem opAt_form (k:Nat) (h:k<53):(opAt k).toList=(z1d k).1:=by
 have h':k=0∨k=1∨k=2∨k=3∨k=4∨k=5∨k=6∨k=7∨k=8∨k=9∨k=10∨k=11∨k=12∨k=13∨k=14∨k=15∨k=16∨k=17∨k=18∨k=19∨k=20∨k=21∨k=22∨k=23∨k=24∨k=25∨k=26∨k=27∨k=28∨k=29∨k=30∨k=31∨k=32∨k=33∨k=34∨k=35∨k=36∨k=37∨k=38∨k=39∨k=40∨k=41∨k=42∨k=43∨k=44∨k=45∨k=46∨k=47∨k=48∨k=49∨k=50∨k=51∨k=52:=by omega
 rcases h' with rfl | rfl | rfl | rfl | rfl | rfl | rfl | rfl | rfl | rfl | rfl | rfl | rfl | rfl | rfl | rfl | rfl | rfl | rfl | rfl | rfl | rfl | rfl | rfl | rfl | rfl | rfl | rfl | rfl | rfl | rfl | rfl | rfl | rfl | rfl | rfl | rfl | rfl | rfl | rfl | rfl | rfl | rfl | rfl | rfl | rfl | rfl | rfl | rfl | rfl | rfl | rfl | rfl <;> simp[go_sem,opAt,z1d,z3w]
theorem formV_opAt (k:Nat) (h:k<53):z0q (opAt k).toList=(z1d k).2:=by
 rw[opAt_form k h];exact z4s (z6n k h)
theorem kind_ne (k:Nat) (h:k<53):(z0q (opAt k).toList).k≠0:=by
 rw[formV_opAt k h]
 have hg:=z5o _ (z6n k h)
 unfold z4j at hg
 omega
def noneOf (x:Int) (k:Nat):Prop:=∀ j,j<k→hasB (z1d j).2 x=false
theorem find_at {x:Int} {k:Nat} (h:k<53) (hn:noneOf x k) (hb:hasB (z1d k).2 x=true):getV x=some (z8i (z1d k) x):=by
 unfold getV
 have:z3w.find? (fun q=>hasB q.2 x)=some (z1d k):=by
  rw[List.find?_eq_some_iff_getElem]
  refine⟨hb,k,by rw[z7o];exact h,?_,?_⟩
  ·have:=z9b k h
   rw[List.getElem?_eq_getElem (by rw[z7o];exact h)] at this
   exact Option.some.inj this
  ·intro j hj
   have h2:=z9b j (by omega)
   rw[List.getElem?_eq_getElem (by rw[z7o];omega)] at h2
   rw[Option.some.inj h2,hn j hj]
   rfl
 rw[this];rfl
theorem find_not {x:Int} (hn:noneOf x 53):getV x=none:=by
 unfold getV
 have:z3w.find? (fun q=>hasB q.2 x)=none:=by
  rw[List.find?_eq_none]
  intro q hq
  obtain⟨j,hj,rfl⟩:=List.mem_iff_getElem.mp hq
  have h2:=z9b j (by rw[← z7o];exact hj)
  rw[List.getElem?_eq_getElem hj] at h2
  rw[Option.some.inj h2,hn j (by rw[← z7o];exact hj)]
  simp
 rw[this];rfl
def toldOf (x:Int) (s:ByteArray) (d a b m:Int) (ok:Bool):Prop:=
 (ok=true∧getV x=some ⟨s.toList,d,a,b,m⟩)∨(ok=false∧s=⟨#[]⟩∧d=0∧a=0∧b=0∧m=0∧getV x=none)
theorem told_cells {w w1 wr:World} (hb:Below (w.alloc (.cells #[.string ⟨#[]⟩,.int .i64 0,.int .i64 0,.int .i64 0,.int .i32 0,.bool false] 104)).heap.size (w.alloc (.cells #[.string ⟨#[]⟩,.int .i64 0,.int .i64 0,.int .i64 0,.int .i32 0,.bool false] 104)) w1) (hr:Below w1.heap.size w1 wr) :
  (wr.cell? ⟨w.heap.size,0,none⟩=some (.string ⟨#[]⟩)∧wr.cell? ⟨w.heap.size,1,none⟩=some (.int .i64 0)∧wr.cell? ⟨w.heap.size,2,none⟩=some (.int .i64 0)∧wr.cell? ⟨w.heap.size,3,none⟩=some (.int .i64 0)∧wr.cell? ⟨w.heap.size,4,none⟩=some (.int .i32 0)∧wr.cell? ⟨w.heap.size,5,none⟩=some (.bool false))∧(∀ i,wr.frozen? ⟨w.heap.size,i,none⟩=false)∧Below w.heap.size w wr∧w.heap.size<wr.heap.size:=by
 have hz:=hb.size
 have hz2:=hr.size
 simp at hz
 have C:∀ (i:Nat) (v:Value),(w.alloc (.cells #[.string ⟨#[]⟩,.int .i64 0,.int .i64 0,.int .i64 0,.int .i32 0,.bool false] 104)).cell? ⟨w.heap.size,i,none⟩=some v→wr.cell? ⟨w.heap.size,i,none⟩=some v:=by
  intro i v hv
  rw[hr.cell (p:=⟨w.heap.size,i,none⟩) (by show w.heap.size<_;omega),hb.cell (p:=⟨w.heap.size,i,none⟩) (by simp)]
  exact hv
 refine⟨⟨C _ _ (by simp[go_sem]),C _ _ (by simp[go_sem]),C _ _ (by simp[go_sem]),C _ _ (by simp[go_sem]),C _ _ (by simp[go_sem]),C _ _ (by simp[go_sem])⟩,?_,?_,by omega⟩
 ·intro i
  rw[hr.frozen (p:=⟨w.heap.size,i,none⟩) (by show w.heap.size<_;omega),hb.frozen (p:=⟨w.heap.size,i,none⟩) (by simp),frozen?_alloc_cells]
  simp[World.frozen?]
 ·exact (((Below.refl _ _).alloc (Nat.le_refl _) _).trans (hb.mono (by simp))).trans (hr.mono (by omega))
theorem three_ways (x:Int) (hx:U32 x) (k:Nat) (hk:k<53) :
  (hasB (z1d k).2 x=true∧mayV (z8i (z1d k) x)=true∧putV (z8i (z1d k) x)=x)∨
  (hasB (z1d k).2 x=false∧mayV (z8i (z1d k) x)=false)∨
  (hasB (z1d k).2 x=false∧mayV (z8i (z1d k) x)=true∧(putV (z8i (z1d k) x)==x)=false):=by
 have hm:=z6n k hk
 have hf:=z4s hm
 have hr:=read_put (z1d k).2 (z5o _ hm) x hx.1 hx.2
 have e1:mayV (z8i (z1d k) x)=mayF (z1d k).2.k (z2h (z1d k).2.k x) (z2j (z1d k).2.k x) (z2i (z1d k).2.k x) (z2a (z1d k).2.k x):=by
  show mayF (z0q (z1d k).1).k _ _ _ _=_
  rw[hf];rfl
 have e2:putV (z8i (z1d k) x)=putF (z1d k).2 (z2h (z1d k).2.k x) (z2j (z1d k).2.k x) (z2i (z1d k).2.k x) (z2a (z1d k).2.k x):=by
  show putF (z0q (z1d k).1) _ _ _ _=_
  rw[hf];rfl
 rw[← e1,← e2,← hasB_iff] at hr
 cases hb:hasB (z1d k).2 x with
 | true=>
  have:=hr.mpr hb
  exact Or.inl ⟨rfl,this.1,this.2⟩
 | false=>
  cases hv:mayV (z8i (z1d k) x) with
  | false=>exact Or.inr (Or.inl ⟨rfl,rfl⟩)
  | true=>
   refine Or.inr (Or.inr ⟨rfl,rfl,?_⟩)
   have:¬putV (z8i (z1d k) x)=x:=by
    intro h
    have:=hr.mp ⟨hv,h⟩
    rw[hb] at this
    cases this
   simpa using this
theorem told_put {V:World} {B:Nat} {u0 u1 u2 u3 u4 u5 v0 v1 v2 v3 v4 v5:Value} (h0:V.cell? ⟨B,0,none⟩=some u0) (h1:V.cell? ⟨B,1,none⟩=some u1) (h2:V.cell? ⟨B,2,none⟩=some u2) (h3:V.cell? ⟨B,3,none⟩=some u3) (h4:V.cell? ⟨B,4,none⟩=some u4) (h5:V.cell? ⟨B,5,none⟩=some u5) :
  ((((((V.setCell ⟨B,0,none⟩ v0).setCell ⟨B,1,none⟩ v1).setCell ⟨B,2,none⟩ v2).setCell ⟨B,3,none⟩ v3).setCell ⟨B,4,none⟩ v4).setCell ⟨B,5,none⟩ v5).cell? ⟨B,0,none⟩=some v0∧((((((V.setCell ⟨B,0,none⟩ v0).setCell ⟨B,1,none⟩ v1).setCell ⟨B,2,none⟩ v2).setCell ⟨B,3,none⟩ v3).setCell ⟨B,4,none⟩ v4).setCell ⟨B,5,none⟩ v5).cell? ⟨B,1,none⟩=some v1∧((((((V.setCell ⟨B,0,none⟩ v0).setCell ⟨B,1,none⟩ v1).setCell ⟨B,2,none⟩ v2).setCell ⟨B,3,none⟩ v3).setCell ⟨B,4,none⟩ v4).setCell ⟨B,5,none⟩ v5).cell? ⟨B,2,none⟩=some v2∧((((((V.setCell ⟨B,0,none⟩ v0).setCell ⟨B,1,none⟩ v1).setCell ⟨B,2,none⟩ v2).setCell ⟨B,3,none⟩ v3).setCell ⟨B,4,none⟩ v4).setCell ⟨B,5,none⟩ v5).cell? ⟨B,3,none⟩=some v3∧((((((V.setCell ⟨B,0,none⟩ v0).setCell ⟨B,1,none⟩ v1).setCell ⟨B,2,none⟩ v2).setCell ⟨B,3,none⟩ v3).setCell ⟨B,4,none⟩ v4).setCell ⟨B,5,none⟩ v5).cell? ⟨B,4,none⟩=some v4∧((((((V.setCell ⟨B,0,none⟩ v0).setCell ⟨B,1,none⟩ v1).setCell ⟨B,2,none⟩ v2).setCell ⟨B,3,none⟩ v3).setCell ⟨B,4,none⟩ v4).setCell ⟨B,5,none⟩ v5).cell? ⟨B,5,none⟩=some v5:=by
 simp[go_sem,h0,h1,h2,h3,h4,h5]
theorem below_six {V w:World} {B:Nat} {v0 v1 v2 v3 v4 v5:Value} (h:Below B w V):Below B w ((((((V.setCell ⟨B,0,none⟩ v0).setCell ⟨B,1,none⟩ v1).setCell ⟨B,2,none⟩ v2).setCell ⟨B,3,none⟩ v3).setCell ⟨B,4,none⟩ v4).setCell ⟨B,5,none⟩ v5):=
 (((((h.setCell (Nat.le_refl _) _).setCell (Nat.le_refl _) _).setCell (Nat.le_refl _) _).setCell (Nat.le_refl _) _).setCell (Nat.le_refl _) _).setCell (Nat.le_refl _) _
theorem get_world {wr w2 w4:World} {v0 v1 v2 v3 v4:Value} {T:TypeId} (B2:Below wr.heap.size wr w2) (B4:Below (w2.alloc (.cells #[v0,v1,v2,v3,v4] T)).heap.size (w2.alloc (.cells #[v0,v1,v2,v3,v4] T)) w4) :
  (w4.cell? ⟨w2.heap.size,0,none⟩=some v0∧w4.cell? ⟨w2.heap.size,1,none⟩=some v1∧w4.cell? ⟨w2.heap.size,2,none⟩=some v2∧w4.cell? ⟨w2.heap.size,3,none⟩=some v3∧w4.cell? ⟨w2.heap.size,4,none⟩=some v4)∧
  (∀ (b i:Nat) (v:Value),b<wr.heap.size→wr.cell? ⟨b,i,none⟩=some v→w4.cell? ⟨b,i,none⟩=some v)∧
  (∀ (b i:Nat),b<wr.heap.size→wr.frozen? ⟨b,i,none⟩=false→w4.frozen? ⟨b,i,none⟩=false)∧
  w2.heap.size<w4.heap.size∧wr.heap.size≤w2.heap.size∧(∀ B,B≤wr.heap.size→Below B wr w4):=by
 have h2:=B2.size
 have h4:=B4.size
 simp at h4
 have C:∀ (i:Nat) (v:Value),(w2.alloc (.cells #[v0,v1,v2,v3,v4] T)).cell? ⟨w2.heap.size,i,none⟩=some v→w4.cell? ⟨w2.heap.size,i,none⟩=some v:=by
  intro i v hv
  rw[B4.cell (p:=⟨w2.heap.size,i,none⟩) (by simp)]
  exact hv
 refine⟨⟨C _ _ (by simp[go_sem]),C _ _ (by simp[go_sem]),C _ _ (by simp[go_sem]),C _ _ (by simp[go_sem]),C _ _ (by simp[go_sem])⟩,?_,?_,by omega,h2,?_⟩
 ·intro b i v hb hv
  rw[B4.cell (p:=⟨b,i,none⟩) (by simp;omega),World.cell?_alloc_lt _ _ _ (by show b<_;omega),B2.cell (p:=⟨b,i,none⟩) hb]
  exact hv
 ·intro b i hb hv
  rw[B4.frozen (p:=⟨b,i,none⟩) (by simp;omega),frozen?_alloc_cells,B2.frozen (p:=⟨b,i,none⟩) hb]
  exact hv
 ·intro B hB
  exact ((B2.mono hB).alloc (by omega) _).trans (B4.mono (by simp;omega))
theorem rGet (x:Int) (hx:U32 x) (w:World) :
  Calls Tryz.prog 51 #[.int .u32 x] w fun e w'=>∃ s d a b m ok,e=.returned (.agg #[.string s,.int .i64 d,.int .i64 a,.int .i64 b,.int .i32 m,.bool ok])∧toldOf x s d a b m ok∧Below w.heap.size w w':=by
 have Hx:Hid (U32 x):=hx
 obtain⟨x0,x1⟩:=hx
 go_enter Tryz.func51,Tryz.ntmps51
 go_wp2_with fail
 refine (rOps _).mono ?_
 rintro e w1 ⟨g,cap,rfl,hg0,hg1,hb1,hcells⟩
 have HC:Hid (∀ k,k<53→w1.cell? ⟨g,k,none⟩=some (.string (opAt k))):=hcells
 have HB1:Hid (Below (w.alloc (.cells #[.string ⟨#[]⟩,.int .i64 0,.int .i64 0,.int .i64 0,.int .i32 0,.bool false] 104)).heap.size (w.alloc (.cells #[.string ⟨#[]⟩,.int .i64 0,.int .i64 0,.int .i64 0,.int .i32 0,.bool false] 104)) w1):=hb1
 clear hcells hb1 hg0
 go_wp2_with fail
 go_loopw [4] (fun i wr=>∃ k:Nat,k≤53∧i=.int .i64 k∧Hid (Below w1.heap.size w1 wr)∧noneOf x k) (fun i _=>53-(intOf i).toNat)
 case atStart=>exact⟨0,Nat.zero_le _,rfl,Below.refl _ _,fun j hj=>absurd hj (Nat.not_lt_zero j)⟩
 case round=>
  obtain⟨k,hk,rfl,hbr,hno⟩:=hrel
  obtain⟨⟨t0,t1,t2,t3,t4,t5⟩,fz,bW,sz⟩:=told_cells HB1.out hbr.out
  have HW:Hid (Below w.heap.size w wr):=bW
  have hgr:g<wr.heap.size:=by have:=hbr.out.size;omega
  have HN:Hid (noneOf x k):=hno
  clear hno bW
  by_cases hlt:k<53
  ·have hcell:wr.cell? ⟨g,k,none⟩=some (.string (opAt k)):=by
    rw[hbr.out.cell (p:=⟨g,k,none⟩) hg1];exact HC.out k hlt
   have HR0:=rRead (opAt k) x Hx (kind_ne k hlt)
   rw[formV_opAt k hlt] at HR0
   have HP0:=rPut (opAt k) (z2h (z1d k).2.k x) (z2j (z1d k).2.k x) (z2i (z1d k).2.k x) (z2a (z1d k).2.k x)
   rw[opAt_form k hlt] at HP0
   have HI:Hid (z8i (z1d k) x=⟨(opAt k).toList,z2h (z1d k).2.k x,z2j (z1d k).2.k x,z2i (z1d k).2.k x,z2a (z1d k).2.k x⟩):=by
    rw[opAt_form k hlt];rfl
   have H3:=three_ways x Hx k hlt
   have HG:Hid (∀ hb:hasB (z1d k).2 x=true,getV x=some (z8i (z1d k) x)):=fun hb=>find_at hlt HN.out hb
   have HP1:∀ w,Calls Tryz.prog 37 #[.agg #[.string (opAt k),.int .i64 (z2h (z1d k).2.k x),.int .i64 (z2j (z1d k).2.k x),.int .i64 (z2i (z1d k).2.k x),.int .i32 (z2a (z1d k).2.k x)]] w fun e w'=>e=.returned (.agg #[.int .u32 (putN (z8i (z1d k) x)),.int .i64 (putE (z8i (z1d k) x))])∧Below w.heap.size w w':=HP0
   clear HP0
   generalize z2h (z1d k).2.k x=d at *
   generalize z2j (z1d k).2.k x=a at *
   generalize z2i (z1d k).2.k x=b at *
   generalize z2a (z1d k).2.k x=m at *
   have HR:Hid (∀ w,Calls Tryz.prog 82 #[.string (opAt k),.int .u32 x] w fun e w'=>e=.returned (.agg #[.string (opAt k),.int .i64 d,.int .i64 a,.int .i64 b,.int .i32 m])∧Below w.heap.size w w'):=HR0
   clear HR0
   rcases H3 with ⟨hh,hm,hp⟩ | ⟨hh,hm⟩ | ⟨hh,hm,hp⟩
   ·have HP:Hid (∀ w,Calls Tryz.prog 37 #[.agg #[.string (opAt k),.int .i64 d,.int .i64 a,.int .i64 b,.int .i32 m]] w fun e w'=>e=.returned (.agg #[.int .u32 x,.int .i64 0])∧Below w.heap.size w w'):=by
     unfold putN putE at HP1
     rw[hm,hp] at HP1
     exact HP1
    have HG2:Hid (getV x=some ⟨(opAt k).toList,d,a,b,m⟩):=by
     show getV x=_
     rw[HG.out hh];exact congrArg some HI.out
    clear HP1 hh hm hp HG HI
    go_wp2_with fail
    refine (HR _).mono ?_
    rintro e w2 ⟨rfl,B2⟩
    go_wp2_with fail
    refine (HP _).mono ?_
    rintro e w4 ⟨rfl,B4⟩
    obtain⟨⟨b0,b1,b2,b3,b4⟩,CC,FF,s24,sr2,BB⟩:=get_world B2 B4
    have r0:=CC _ 0 _ sz t0
    have r1:=CC _ 1 _ sz t1
    have r2:=CC _ 2 _ sz t2
    have r3:=CC _ 3 _ sz t3
    have r4:=CC _ 4 _ sz t4
    have r5:=CC _ 5 _ sz t5
    have z0:=FF _ 0 sz (fz 0)
    have z1:=FF _ 1 sz (fz 1)
    have z2:=FF _ 2 sz (fz 2)
    have z3:=FF _ 3 sz (fz 3)
    have z4:=FF _ 4 sz (fz 4)
    have z5:=FF _ 5 sz (fz 5)
    have s4:w.heap.size<w4.heap.size:=by omega
    have HBB:Hid (∀ B,B≤wr.heap.size→Below B wr w4):=BB
    clear CC FF BB B2 B4 t0 t1 t2 t3 t4 t5 fz hcell
    go_wp2_with fail
    obtain⟨y0,y1,y2,y3,y4,y5⟩:=told_put (v0:=.string (opAt k)) (v1:=.int .i64 d) (v2:=.int .i64 a) (v3:=.int .i64 b) (v4:=.int .i32 m) (v5:=.bool true) r0 r1 r2 r3 r4 r5
    have HF6:=below_six (v0:=.string (opAt k)) (v1:=.int .i64 d) (v2:=.int .i64 a) (v3:=.int .i64 b) (v4:=.int .i32 m) (v5:=.bool true) (HW.out.trans (HBB.out _ (by omega)))
    have sY:=World.block_lt_of_cell? _ _ y0
    generalize (((((w4.setCell ⟨w.heap.size,0,none⟩ (.string (opAt k))).setCell ⟨w.heap.size,1,none⟩ (.int .i64 d)).setCell ⟨w.heap.size,2,none⟩ (.int .i64 a)).setCell ⟨w.heap.size,3,none⟩ (.int .i64 b)).setCell ⟨w.heap.size,4,none⟩ (.int .i32 m)).setCell ⟨w.heap.size,5,none⟩ (.bool true)=Y at *
    simp only at sY
    refine bodyPost_ret (v:=.agg #[.string (opAt k),.int .i64 d,.int .i64 a,.int .i64 b,.int .i32 m,.bool true]) ?_ rfl ?_
    ·simp[results,Tryz.results51,go_sem,y0,y1,y2,y3,y4,y5,sY]
    ·exact⟨_,_,_,_,_,_,rfl,Or.inl ⟨rfl,HG2.out⟩,HF6.alloc (Nat.le_of_lt sY) _⟩
   ·have HP:Hid (∀ w,Calls Tryz.prog 37 #[.agg #[.string (opAt k),.int .i64 d,.int .i64 a,.int .i64 b,.int .i32 m]] w fun e w'=>e=.returned (.agg #[.int .u32 0,.int .i64 1])∧Below w.heap.size w w'):=by
     unfold putN putE at HP1
     rw[hm] at HP1
     exact HP1
    have HN2:Hid (noneOf x (k+1)):=fun j hj=>by
     rcases Nat.lt_succ_iff_lt_or_eq.mp hj with h | h
     ·exact HN.out j h
     ·rw[h];exact hh
    clear HP1 hh hm HG HI
    go_wp2_with fail
    refine (HR _).mono ?_
    rintro e w2 ⟨rfl,B2⟩
    go_wp2_with fail
    refine (HP _).mono ?_
    rintro e w4 ⟨rfl,B4⟩
    obtain⟨⟨b0,b1,b2,b3,b4⟩,CC,FF,s24,sr2,BB⟩:=get_world B2 B4
    have r0:=CC _ 0 _ sz t0
    have r1:=CC _ 1 _ sz t1
    have r2:=CC _ 2 _ sz t2
    have r3:=CC _ 3 _ sz t3
    have r4:=CC _ 4 _ sz t4
    have r5:=CC _ 5 _ sz t5
    have z0:=FF _ 0 sz (fz 0)
    have z1:=FF _ 1 sz (fz 1)
    have z2:=FF _ 2 sz (fz 2)
    have z3:=FF _ 3 sz (fz 3)
    have z4:=FF _ 4 sz (fz 4)
    have z5:=FF _ 5 sz (fz 5)
    have s4:w.heap.size<w4.heap.size:=by omega
    have HBB:Hid (∀ B,B≤wr.heap.size→Below B wr w4):=BB
    clear CC FF BB B2 B4 t0 t1 t2 t3 t4 t5 fz hcell
    go_wp2_with fail
    refine⟨⟨k+1,by omega,by go_num,?_,HN2.out⟩,by simp[intOf];omega⟩
    exact (hbr.out.trans (HBB.out _ (by have:=hbr.out.size;omega))).alloc (by have:=hbr.out.size;omega) _
   ·generalize hpv:putV (z8i (z1d k) x)=pv at *
    have HP:Hid (∀ w,Calls Tryz.prog 37 #[.agg #[.string (opAt k),.int .i64 d,.int .i64 a,.int .i64 b,.int .i32 m]] w fun e w'=>e=.returned (.agg #[.int .u32 pv,.int .i64 0])∧Below w.heap.size w w'):=by
     unfold putN putE at HP1
     rw[hm,hpv] at HP1
     exact HP1
    have HN2:Hid (noneOf x (k+1)):=fun j hj=>by
     rcases Nat.lt_succ_iff_lt_or_eq.mp hj with h | h
     ·exact HN.out j h
     ·rw[h];exact hh
    clear HP1 hh hm HG HI hpv
    go_wp2_with fail
    refine (HR _).mono ?_
    rintro e w2 ⟨rfl,B2⟩
    go_wp2_with fail
    refine (HP _).mono ?_
    rintro e w4 ⟨rfl,B4⟩
    obtain⟨⟨b0,b1,b2,b3,b4⟩,CC,FF,s24,sr2,BB⟩:=get_world B2 B4
    have r0:=CC _ 0 _ sz t0
    have r1:=CC _ 1 _ sz t1
    have r2:=CC _ 2 _ sz t2
    have r3:=CC _ 3 _ sz t3
    have r4:=CC _ 4 _ sz t4
    have r5:=CC _ 5 _ sz t5
    have z0:=FF _ 0 sz (fz 0)
    have z1:=FF _ 1 sz (fz 1)
    have z2:=FF _ 2 sz (fz 2)
    have z3:=FF _ 3 sz (fz 3)
    have z4:=FF _ 4 sz (fz 4)
    have z5:=FF _ 5 sz (fz 5)
    have s4:w.heap.size<w4.heap.size:=by omega
    have HBB:Hid (∀ B,B≤wr.heap.size→Below B wr w4):=BB
    clear CC FF BB B2 B4 t0 t1 t2 t3 t4 t5 fz hcell
    go_wp2_with fail
    refine⟨⟨k+1,by omega,by go_num,?_,HN2.out⟩,by simp[intOf];omega⟩
    exact (hbr.out.trans (HBB.out _ (by have:=hbr.out.size;omega))).alloc (by have:=hbr.out.size;omega) _
  ·have hk53:k=53:=by omega
   subst hk53
   go_wp2
   obtain⟨y0,y1,y2,y3,y4,y5⟩:=told_put (v0:=.string ⟨#[]⟩) (v1:=.int .i64 0) (v2:=.int .i64 0) (v3:=.int .i64 0) (v4:=.int .i32 0) (v5:=.bool false) t0 t1 t2 t3 t4 t5
   have HF6:=below_six (v0:=.string ⟨#[]⟩) (v1:=.int .i64 0) (v2:=.int .i64 0) (v3:=.int .i64 0) (v4:=.int .i32 0) (v5:=.bool false) HW.out
   generalize (((((wr.setCell ⟨w.heap.size,0,none⟩ (.string ⟨#[]⟩)).setCell ⟨w.heap.size,1,none⟩ (.int .i64 0)).setCell ⟨w.heap.size,2,none⟩ (.int .i64 0)).setCell ⟨w.heap.size,3,none⟩ (.int .i64 0)).setCell ⟨w.heap.size,4,none⟩ (.int .i32 0)).setCell ⟨w.heap.size,5,none⟩ (.bool false)=Y at *
   refine bodyPost_ret (v:=.agg #[.string ⟨#[]⟩,.int .i64 0,.int .i64 0,.int .i64 0,.int .i32 0,.bool false]) ?_ rfl ?_
   ·simp[results,Tryz.results51,go_sem,y0,y1,y2,y3,y4,y5]
   ·exact⟨_,_,_,_,_,_,rfl,Or.inr ⟨rfl,rfl,rfl,rfl,rfl,rfl,find_not HN.out⟩,HF6⟩
theorem upper_form (n:Int):IntKind.u64.wrap n/4294967296%4294967296=n/4294967296%4294967296:=by rw[IntKind.wrap_u64];omega
theorem rupper (n:Int) (w:World) :
  Calls Tryz.prog 86 #[.int .i64 n] w fun e w'=>e=.returned (.agg #[.int .u32 (n/4294967296%4294967296),.int .i64 0])∧w'=w.alloc (.cells #[.int .u32 (n/4294967296%4294967296),.int .i64 0] 81):=by
 have hf:=upper_form n
 go_enter Tryz.func86,Tryz.ntmps86
 go_wp2
 exact bodyPost_ret (v:=.agg #[.int .u32 (n/4294967296%4294967296),.int .i64 0]) (by simp[results,Tryz.results86,go_sem]) rfl ⟨rfl,rfl⟩
def oneV (b:Bool):Int:=if b then 1 else 0
theorem rone (b:Bool) (w:World) :
  Calls Tryz.prog 83 #[.bool b] w fun e w'=>e=.returned (.agg #[.int .u32 (oneV b),.int .i64 0])∧w'=w.alloc (.cells #[.int .u32 (oneV b),.int .i64 0] 81):=by
 cases b
 ·show Calls Tryz.prog 83 #[.bool false] w fun e w'=>e=.returned (.agg #[.int .u32 0,.int .i64 0])∧w'=w.alloc (.cells #[.int .u32 0,.int .i64 0] 81)
  go_enter Tryz.func83,Tryz.ntmps83
  go_wp2
  exact bodyPost_ret (v:=.agg #[.int .u32 0,.int .i64 0]) (by simp[results,Tryz.results83,go_sem]) rfl ⟨rfl,rfl⟩
 ·show Calls Tryz.prog 83 #[.bool true] w fun e w'=>e=.returned (.agg #[.int .u32 1,.int .i64 0])∧w'=w.alloc (.cells #[.int .u32 1,.int .i64 0] 81)
  go_enter Tryz.func83,Tryz.ntmps83
  go_wp2
  exact bodyPost_ret (v:=.agg #[.int .u32 1,.int .i64 0]) (by simp[results,Tryz.results83,go_sem]) rfl ⟨rfl,rfl⟩
theorem got_op {x y e f:Int} (h:x=y) (h':e=f):Ending.returned (.agg #[.int .u32 x,.int .i64 e])=.returned (.agg #[.int .u32 y,.int .i64 f]):=by rw[h,h']
theorem one_slt (a b:Int):oneV (decide (wrap32 a<wrap32 b))=wSlt a b:=by unfold oneV wSlt;simp
theorem one_sltu (a b:Int):oneV (decide (a<b))=wSltu a b:=by unfold oneV wSltu;simp
theorem mulh_form2 (a b:Int):wrap64 (wrap32 a*wrap32 b)/4294967296%4294967296=wMulh a b:=by
 have h1:=z4w a
 have h2:=z4w b
 have h:=mul_bd (a:=wrap32 a) (b:=wrap32 b) (A:=2147483648) (B:=2147483648) (by omega) (by omega) (by omega) (by omega)
 unfold wMulh
 rw[z0y (by omega) (by omega)]
theorem mulhsu_form2 {a b:Int} (hb:U32 b):wrap64 (wrap32 a*b)/4294967296%4294967296=wMulhsu a b:=by
 have h1:=z4w a
 obtain⟨h2,h3⟩:=hb
 have h:=mul_bd (a:=wrap32 a) (b:=b) (A:=2147483648) (B:=4294967295) (by omega) (by omega) (by omega) (by omega)
 unfold wMulhsu
 rw[z0y (by omega) (by omega)]
theorem div_form2 {a b:Int} (hb:b≠0):wrap64 ((wrap32 a).tdiv (wrap32 b))%4294967296=wDiv a b:=by
 have h1:=z4w a
 have h:=tdiv_bd (wrap32 a) (wrap32 b)
 unfold wDiv
 rw[if_neg hb,z0y (by omega) (by omega)]
theorem rem_form2 {a b:Int} (hb:b≠0):(wrap32 a).tmod (wrap32 b)%4294967296=wRem a b:=by
 unfold wRem
 rw[if_neg hb]
theorem rOp (s:ByteArray) (a b:Int) (ha:U32 a) (hb:U32 b) (w:World) :
  Calls Tryz.prog 54 #[.string s,.int .u32 a,.int .u32 b] w fun e w'=>e=.returned (.agg #[.int .u32 (opN s.toList a b),.int .i64 (opE s.toList)])∧Below w.heap.size w w':=by
 have Ha:Hid (U32 a):=ha
 have Hb:Hid (U32 b):=hb
 obtain⟨ha0,ha1⟩:=ha
 obtain⟨hb1,hb2⟩:=hb
 by_cases hz:b=0
 ·have hb0:(b==0)=true:=by simpa using hz
  clear hz
  go_enter Tryz.func54,Tryz.ntmps54
  go_wp2_with (first | (go_at_call 84;refine (rsigned _ ?_ _).mono ?_;(first | exact Ha | exact Hb);rintro e w' ⟨rfl,rfl⟩) | (go_at_call 85;refine (rlow _ _).mono ?_;rintro e w' ⟨rfl,rfl⟩) | (go_at_call 86;refine (rupper _ _).mono ?_;rintro e w' ⟨rfl,rfl⟩) | (go_at_call 83;refine (rone _ _).mono ?_;rintro e w' ⟨rfl,rfl⟩))
  all_goals (apply bodyPost_ret (hd:=rfl);focus (simp[results,Tryz.results54,go_sem];rfl))
  all_goals refine⟨got_op ?_ ?_,?_⟩
  all_goals (first | exact (Below.refl _ _).alloc (Nat.le_refl _) _ | exact ((Below.refl _ _).alloc (Nat.le_refl _) _).alloc (by simp) _ | skip)
  all_goals simp only[opN,opE,opV, *,Bool.false_eq_true,reduceIte,Option.getD_some,Option.getD_none,Option.isSome_some,Option.isSome_none]
  all_goals (first | done | rfl | exact one_slt a b | exact one_sltu a b | exact mulh_form2 a b | exact mulhsu_form2 Hb | exact z7j Ha Hb | (unfold wDiv;rw[if_pos (by simpa using hb0)]) | (unfold wDivu;rw[if_pos (by simpa using hb0)]) | (unfold wRem;rw[if_pos (by simpa using hb0)]) | (unfold wRemu;rw[if_pos (by simpa using hb0)]))
 ·have hb0:(b==0)=false:=by simpa using hz
  have hz'':Hid (wrap32 b≠0):=fun e=>hz ((z9g Hb).mp e)
  have hz':Hid (b≠0):=hz
  clear hz
  go_enter Tryz.func54,Tryz.ntmps54
  go_wp2_with (first | (go_at_call 84;refine (rsigned _ ?_ _).mono ?_;(first | exact Ha | exact Hb);rintro e w' ⟨rfl,rfl⟩) | (go_at_call 85;refine (rlow _ _).mono ?_;rintro e w' ⟨rfl,rfl⟩) | (go_at_call 86;refine (rupper _ _).mono ?_;rintro e w' ⟨rfl,rfl⟩) | (go_at_call 83;refine (rone _ _).mono ?_;rintro e w' ⟨rfl,rfl⟩))
  all_goals (try exact absurd ‹wrap32 b=0› hz'')
  all_goals (apply bodyPost_ret (hd:=rfl);focus (simp[results,Tryz.results54,go_sem];rfl))
  all_goals refine⟨got_op ?_ ?_,?_⟩
  all_goals (first | exact (Below.refl _ _).alloc (Nat.le_refl _) _ | exact ((Below.refl _ _).alloc (Nat.le_refl _) _).alloc (by simp) _ | skip)
  all_goals simp only[opN,opE,opV, *,Bool.false_eq_true,reduceIte,Option.getD_some,Option.getD_none,Option.isSome_some,Option.isSome_none]
  all_goals (first | done | rfl | exact one_slt a b | exact one_sltu a b | exact mulh_form2 a b | exact mulhsu_form2 Hb | exact z7j Ha Hb | exact div_form2 hz' | exact divu_form Ha Hb hz' | exact rem_form2 hz' | (unfold wRemu;rw[if_neg hz']))
end Go.Proofs.YtbmnmbkgdalkcaaGreatDoor
