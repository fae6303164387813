/-
  Contracts of functions that the statement reaches, and what they are made of, callees first.
-/
import Derived.ArgAppend
import Derived.BigQuiet
import Derived.Deep.QuietTactic
import Derived.Laws.AppendOwn
import Derived.LoopTactic
import Derived.StillTailTactics
import Derived.Test.YtilcoimelnpkeaaGreatDoorPzd
set_option maxRecDepth 100000
set_option maxHeartbeats 8000000
namespace Go.Proofs.YtilcoimelnpkeaaGreatDoor
open Go.RowKit
theorem bcell {W w1:World} (hb:Below W.heap.size W w1):(∀ b o,b<W.heap.size→w1.cell? ⟨b,o,none⟩=W.cell? ⟨b,o,none⟩)∧(∀ b o,b<W.heap.size→w1.frozen? ⟨b,o,none⟩=W.frozen? ⟨b,o,none⟩):=
 ⟨fun b o h=>hb.cell (p:=⟨b,o,none⟩) h,fun b o h=>hb.frozen (p:=⟨b,o,none⟩) h⟩
theorem below2 {w w1:World} {x y:Obj} (hb:Below ((w.alloc x).alloc y).heap.size ((w.alloc x).alloc y) w1):Below w.heap.size w w1:=
 (((Below.refl _ _).alloc (Nat.le_refl _) _).alloc (by simp) _).trans (hb.mono (by simp;omega))
theorem z5b {w w1:World} {s:ByteArray} {d a b m k o g f:Int}
  (hb:Below ((w.alloc (.cells #[.string s,.int .i64 d,.int .i64 a,.int .i64 b,.int .i32 m] 24)).alloc (.cells #[.int .u32 0,.int .i64 0] 73)).heap.size ((w.alloc (.cells #[.string s,.int .i64 d,.int .i64 a,.int .i64 b,.int .i32 m] 24)).alloc (.cells #[.int .u32 0,.int .i64 0] 73)) w1) :
  let W:=(w1.alloc (.cells #[.int .u8 k,.int .u32 o,.int .u32 g,.int .u32 f] 64)).alloc (.cells #[.int .u8 k,.int .u32 o,.int .u32 g,.int .u32 f] 64)
  W.cell? ⟨w.heap.size,0,none⟩=some (.string s)∧W.cell? ⟨w.heap.size,1,none⟩=some (.int .i64 d)∧W.cell? ⟨w.heap.size,2,none⟩=some (.int .i64 a)∧W.cell? ⟨w.heap.size,3,none⟩=some (.int .i64 b)∧W.cell? ⟨w.heap.size,4,none⟩=some (.int .i32 m)∧
  W.cell? ⟨w.heap.size+1,0,none⟩=some (.int .u32 0)∧W.cell? ⟨w.heap.size+1,1,none⟩=some (.int .i64 0)∧W.frozen? ⟨w.heap.size+1,0,none⟩=false∧W.frozen? ⟨w.heap.size+1,1,none⟩=false∧
  W.cell? ⟨w1.heap.size+1,0,none⟩=some (.int .u8 k)∧W.cell? ⟨w1.heap.size+1,1,none⟩=some (.int .u32 o)∧W.cell? ⟨w1.heap.size+1,2,none⟩=some (.int .u32 g)∧W.cell? ⟨w1.heap.size+1,3,none⟩=some (.int .u32 f)∧
  Below w.heap.size w W:=by
 intro W
 have hz:=hb.size
 simp at hz
 have C:∀ (B i:Nat) (v:Value),B<w.heap.size+2→((w.alloc (.cells #[.string s,.int .i64 d,.int .i64 a,.int .i64 b,.int .i32 m] 24)).alloc (.cells #[.int .u32 0,.int .i64 0] 73)).cell? ⟨B,i,none⟩=some v→W.cell? ⟨B,i,none⟩=some v:=by
  intro B i v h hv
  show ((w1.alloc _).alloc _).cell? _=_
  rw[World.cell?_alloc_lt _ _ _ (by simp;omega),World.cell?_alloc_lt _ _ _ (by simp;omega),hb.cell (p:=⟨B,i,none⟩) (by simp;omega)]
  exact hv
 have Fz:∀ (i:Nat),W.frozen? ⟨w.heap.size+1,i,none⟩=false:=by
  intro i
  show ((w1.alloc _).alloc _).frozen? _=_
  rw[frozen?_alloc_cells,frozen?_alloc_cells,hb.frozen (p:=⟨w.heap.size+1,i,none⟩) (by simp),frozen?_alloc_cells,frozen?_alloc_cells]
  simp[World.frozen?]
 refine⟨C _ _ _ (by omega) (by simp[go_sem]),C _ _ _ (by omega) (by simp[go_sem]),C _ _ _ (by omega) (by simp[go_sem]),C _ _ _ (by omega) (by simp[go_sem]),C _ _ _ (by omega) (by simp[go_sem]),C _ _ _ (by omega) (by simp[go_sem]),C _ _ _ (by omega) (by simp[go_sem]),Fz 0,Fz 1,by simp[W,go_sem],by simp[W,go_sem],by simp[W,go_sem],by simp[W,go_sem],?_⟩
 exact ((below2 hb).alloc (by omega) _).alloc (by simp;omega) _
theorem z7x {x y e f:Int} (h:x=y) (h':e=f):Ending.returned (.agg #[.int .u32 x,.int .i64 e])=.returned (.agg #[.int .u32 y,.int .i64 f]):=by rw[h,h']
theorem put_not (s:ByteArray) (d a b m:Int) (hm:mayV ⟨s.toList,d,a,b,m⟩=false) (w:World) :
  Calls Tryz.prog 27 #[.agg #[.string s,.int .i64 d,.int .i64 a,.int .i64 b,.int .i32 m]] w fun e w'=>e=.returned (.agg #[.int .u32 0,.int .i64 1])∧Below w.heap.size w w':=by
 have HM:Hid (∀ w,Calls Tryz.prog 36 #[.agg #[.string s,.int .i64 d,.int .i64 a,.int .i64 b,.int .i32 m]] w fun e w'=>e=.returned (.bool false)∧Below w.heap.size w w'):=by
  intro w
  have h:=rMay s d a b m w
  rw[hm] at h
  exact h
 clear hm
 go_enter Tryz.func27,Tryz.ntmps27
 go_wp2_with fail
 refine (HM _).mono ?_
 rintro e w1 ⟨rfl,hb⟩
 obtain⟨hc,hf⟩:=bcell hb
 have hz:=hb.size
 simp at hz
 go_wp2_with fail
 apply bodyPost_ret (hd:=rfl)
 focus (simp[results,Tryz.results27,go_sem,hc];rfl)
 exact⟨rfl,((below2 hb).setCell (by simp) _).setCell (by simp) _⟩
theorem z0u (B:Nat) (W:World) (n:Nat):Below B W (W.drewN n):=⟨rfl,rfl,rfl,Nat.le_refl _,fun _ _=>rfl⟩
theorem z9o {P:Program} {id:Nat} {Q:Exit→Act→World→Prop} {a:Act} {w:World} {l:List Oper} (n:Nat) (hm:P.follows .mixedOrders=true) (hB:Region.lexTailB .any l.toArray n=true)
  (h:wpStill P l.toArray w.drew (fun a'=>wpList P l.toArray Q (l.drop n) a' w.drew) (l.take n) a):(Code.region id l.toArray true).wp P Q a w:=wp_region_still_tail n hm hB h
theorem or_R {f b a g d o:Int} (hf:0≤f∧f<128) (hb:0≤b∧b<32) (ha:0≤a∧a<32) (hg:0≤g∧g<8) (hd:0≤d∧d<32) (ho:0≤o∧o<128) :
  bits .or .u32 (bits .or .u32 (bits .or .u32 (bits .or .u32 (bits .or .u32 (f*33554432) (b*1048576)) (a*32768)) (g*4096)) (d*128)) o=f*33554432+b*1048576+a*32768+g*4096+d*128+o:=by
 have e1:=z2w (x:=f*33554432) (y:=b*1048576) 25 (by omega) ⟨by omega,by omega⟩ (by omega) (by omega) (by omega)
 have e2:=z2w (x:=f*33554432+b*1048576) (y:=a*32768) 20 (by omega) ⟨by omega,by omega⟩ (by omega) (by omega) (by omega)
 have e3:=z2w (x:=f*33554432+b*1048576+a*32768) (y:=g*4096) 15 (by omega) ⟨by omega,by omega⟩ (by omega) (by omega) (by omega)
 have e4:=z2w (x:=f*33554432+b*1048576+a*32768+g*4096) (y:=d*128) 12 (by omega) ⟨by omega,by omega⟩ (by omega) (by omega) (by omega)
 have e5:=z2w (x:=f*33554432+b*1048576+a*32768+g*4096+d*128) (y:=o) 7 (by omega) ⟨by omega,by omega⟩ (by omega) (by omega) (by omega)
 rw[e1,e2,e3,e4,e5]
theorem or_I {q a g d o:Int} (hq:0≤q∧q<4096) (ha:0≤a∧a<32) (hg:0≤g∧g<8) (hd:0≤d∧d<32) (ho:0≤o∧o<128) :
  bits .or .u32 (bits .or .u32 (bits .or .u32 (bits .or .u32 (q*1048576) (a*32768)) (g*4096)) (d*128)) (o)=q*1048576+a*32768+g*4096+d*128+o:=by
 have e0:=z2w (x:=q*1048576) (y:=a*32768) 20 (by omega) ⟨by omega,by omega⟩ (by omega) (by omega) (by omega)
 have e1:=z2w (x:=q*1048576+a*32768) (y:=g*4096) 15 (by omega) ⟨by omega,by omega⟩ (by omega) (by omega) (by omega)
 have e2:=z2w (x:=q*1048576+a*32768+g*4096) (y:=d*128) 12 (by omega) ⟨by omega,by omega⟩ (by omega) (by omega) (by omega)
 have e3:=z2w (x:=q*1048576+a*32768+g*4096+d*128) (y:=o) 7 (by omega) ⟨by omega,by omega⟩ (by omega) (by omega) (by omega)
 rw[e0,e1,e2,e3]
theorem or_B {t v b a g w u o:Int} (ht:0≤t∧t<2) (hv:0≤v∧v<64) (hb:0≤b∧b<32) (ha:0≤a∧a<32) (hg:0≤g∧g<8) (hw:0≤w∧w<16) (hu:0≤u∧u<2) (ho:0≤o∧o<128) :
  bits .or .u32 (bits .or .u32 (bits .or .u32 (bits .or .u32 (bits .or .u32 (bits .or .u32 (bits .or .u32 (t*2147483648) (v*33554432)) (b*1048576)) (a*32768)) (g*4096)) (w*256)) (u*128)) (o)=t*2147483648+v*33554432+b*1048576+a*32768+g*4096+w*256+u*128+o:=by
 have e0:=z2w (x:=t*2147483648) (y:=v*33554432) 31 (by omega) ⟨by omega,by omega⟩ (by omega) (by omega) (by omega)
 have e1:=z2w (x:=t*2147483648+v*33554432) (y:=b*1048576) 25 (by omega) ⟨by omega,by omega⟩ (by omega) (by omega) (by omega)
 have e2:=z2w (x:=t*2147483648+v*33554432+b*1048576) (y:=a*32768) 20 (by omega) ⟨by omega,by omega⟩ (by omega) (by omega) (by omega)
 have e3:=z2w (x:=t*2147483648+v*33554432+b*1048576+a*32768) (y:=g*4096) 15 (by omega) ⟨by omega,by omega⟩ (by omega) (by omega) (by omega)
 have e4:=z2w (x:=t*2147483648+v*33554432+b*1048576+a*32768+g*4096) (y:=w*256) 12 (by omega) ⟨by omega,by omega⟩ (by omega) (by omega) (by omega)
 have e5:=z2w (x:=t*2147483648+v*33554432+b*1048576+a*32768+g*4096+w*256) (y:=u*128) 8 (by omega) ⟨by omega,by omega⟩ (by omega) (by omega) (by omega)
 have e6:=z2w (x:=t*2147483648+v*33554432+b*1048576+a*32768+g*4096+w*256+u*128) (y:=o) 7 (by omega) ⟨by omega,by omega⟩ (by omega) (by omega) (by omega)
 rw[e0,e1,e2,e3,e4,e5,e6]
theorem or_U {q d o:Int} (hq:0≤q∧q<1048576) (hd:0≤d∧d<32) (ho:0≤o∧o<128) :
  bits .or .u32 (bits .or .u32 (q*4096) (d*128)) (o)=q*4096+d*128+o:=by
 have e0:=z2w (x:=q*4096) (y:=d*128) 12 (by omega) ⟨by omega,by omega⟩ (by omega) (by omega) (by omega)
 have e1:=z2w (x:=q*4096+d*128) (y:=o) 7 (by omega) ⟨by omega,by omega⟩ (by omega) (by omega) (by omega)
 rw[e0,e1]
theorem or_J {t v u w d o:Int} (ht:0≤t∧t<2) (hv:0≤v∧v<1024) (hu:0≤u∧u<2) (hw:0≤w∧w<256) (hd:0≤d∧d<32) (ho:0≤o∧o<128) :
  bits .or .u32 (bits .or .u32 (bits .or .u32 (bits .or .u32 (bits .or .u32 (t*2147483648) (v*2097152)) (u*1048576)) (w*4096)) (d*128)) (o)=t*2147483648+v*2097152+u*1048576+w*4096+d*128+o:=by
 have e0:=z2w (x:=t*2147483648) (y:=v*2097152) 31 (by omega) ⟨by omega,by omega⟩ (by omega) (by omega) (by omega)
 have e1:=z2w (x:=t*2147483648+v*2097152) (y:=u*1048576) 21 (by omega) ⟨by omega,by omega⟩ (by omega) (by omega) (by omega)
 have e2:=z2w (x:=t*2147483648+v*2097152+u*1048576) (y:=w*4096) 20 (by omega) ⟨by omega,by omega⟩ (by omega) (by omega) (by omega)
 have e3:=z2w (x:=t*2147483648+v*2097152+u*1048576+w*4096) (y:=d*128) 12 (by omega) ⟨by omega,by omega⟩ (by omega) (by omega) (by omega)
 have e4:=z2w (x:=t*2147483648+v*2097152+u*1048576+w*4096+d*128) (y:=o) 7 (by omega) ⟨by omega,by omega⟩ (by omega) (by omega) (by omega)
 rw[e0,e1,e2,e3,e4]
theorem put_82 (s:ByteArray) (d a b m o g f:Int) (hm:mayV ⟨s.toList,d,a,b,m⟩=true) (hp:z0q s.toList=⟨82,o,g,f⟩) (hk:z4j ⟨82,o,g,f⟩) (w:World) :
  Calls Tryz.prog 27 #[.agg #[.string s,.int .i64 d,.int .i64 a,.int .i64 b,.int .i32 m]] w fun e w'=>e=.returned (.agg #[.int .u32 (putV ⟨s.toList,d,a,b,m⟩),.int .i64 0])∧Below w.heap.size w w':=by
 have HM:Hid (∀ w,Calls Tryz.prog 36 #[.agg #[.string s,.int .i64 d,.int .i64 a,.int .i64 b,.int .i32 m]] w fun e w'=>e=.returned (.bool true)∧Below w.heap.size w w'):=by
  intro w
  have h:=rMay s d a b m w
  rw[hm] at h
  exact h
 have HF:Hid (∀ w,Calls Tryz.prog 24 #[.string s] w fun e w'=>e=.returned (.agg #[.int .u8 82,.int .u32 o,.int .u32 g,.int .u32 f])∧w'=w.alloc (.cells #[.int .u8 82,.int .u32 o,.int .u32 g,.int .u32 f] 64)):=z2v s 82 o g f hp
 have HR:Hid (regV d=true∧regV a=true∧regV b=true):=by
  have h:=hm
  simp[mayV,mayF] at h
  exact⟨h.1.1.1,h.1.1.2,h.1.2⟩
 have rd:=(z1f d).mp HR.out.1
 have ra:=(z1f a).mp HR.out.2.1
 have rb:=(z1f b).mp HR.out.2.2
 have ud:IntKind.u32.wrap d=d:=by rw[IntKind.wrap_u32'];omega
 have ua:IntKind.u32.wrap a=a:=by rw[IntKind.wrap_u32'];omega
 have ub:IntKind.u32.wrap b=b:=by rw[IntKind.wrap_u32'];omega
 have um:=IntKind.wrap_u32' m
 have Hm:Hid (U32 (m%4294967296)):=⟨by omega,by omega⟩
 generalize hM:m%4294967296=M at *
 have HMM:Hid (m%4294967296=M):=hM
 have HH:Hid (mayV ⟨s.toList,d,a,b,m⟩=true):=hm
 have HP:Hid (z0q s.toList=⟨82,o,g,f⟩):=hp
 unfold z4j at hk
 simp at hk
 obtain⟨o0,o1,g0,g1,f0,f1⟩:=hk
 obtain⟨d0,d1⟩:=rd
 obtain⟨a0,a1⟩:=ra
 obtain⟨b0,b1⟩:=rb
 have M0:0≤M:=by omega
 have M1:M<4294967296:=by omega
 clear hm hp hM
 go_enter Tryz.func27,Tryz.ntmps27
 go_wp2_with fail
 refine (HM _).mono ?_
 rintro e w1 ⟨rfl,hb⟩
 obtain⟨hc,hf⟩:=bcell hb
 have hz:=hb.size
 simp at hz
 go_wp2_with fail
 refine (HF _).mono ?_
 rintro e w' ⟨rfl,rfl⟩
 go_wp2_with fail
 obtain⟨k0,k1,k2,k3,k4,q0,q1,z0,z1,f0',f1',f2',f3',bW⟩:=z5b (k:=82) (o:=o) (g:=g) (f:=f) hb
 have HB:Hid _:=bW
 generalize (w1.alloc (.cells #[.int .u8 82,.int .u32 o,.int .u32 g,.int .u32 f] 64)).alloc (.cells #[.int .u8 82,.int .u32 o,.int .u32 g,.int .u32 f] 64)=W at *
 generalize hgf:w1.heap.size+1=G at *
 clear hb hc hf hz bW hgf
 go_quiet (fail)
 go_wp2_with (go_at_call 37;refine (z4k _ _ _ Hm _).mono ?_;rintro e w' ⟨rfl,rfl⟩)
 apply bodyPost_ret (hd:=rfl)
 focus (simp[results,Tryz.results27,go_sem,q0,q1];rfl)
 refine⟨z7x ?_ rfl,?_⟩
 ·have e:putV ⟨s.toList,d,a,b,m⟩=putF ⟨82,o,g,f⟩ d a b m:=by unfold putV;rw[HP.out]
  rw[e]
  simp only[putF]
  exact or_R ⟨f0,f1⟩ ⟨b0,b1⟩ ⟨a0,a1⟩ ⟨g0,g1⟩ ⟨d0,d1⟩ ⟨o0,o1⟩
 ·exact (((HB.out.trans (z0u _ _ _)).setCell (by simp) _).setCell (by simp) _)
theorem put_73 (s:ByteArray) (d a b m o g f:Int) (hm:mayV ⟨s.toList,d,a,b,m⟩=true) (hp:z0q s.toList=⟨73,o,g,f⟩) (hk:z4j ⟨73,o,g,f⟩) (w:World) :
  Calls Tryz.prog 27 #[.agg #[.string s,.int .i64 d,.int .i64 a,.int .i64 b,.int .i32 m]] w fun e w'=>e=.returned (.agg #[.int .u32 (putV ⟨s.toList,d,a,b,m⟩),.int .i64 0])∧Below w.heap.size w w':=by
 have HM:Hid (∀ w,Calls Tryz.prog 36 #[.agg #[.string s,.int .i64 d,.int .i64 a,.int .i64 b,.int .i32 m]] w fun e w'=>e=.returned (.bool true)∧Below w.heap.size w w'):=by
  intro w
  have h:=rMay s d a b m w
  rw[hm] at h
  exact h
 have HF:Hid (∀ w,Calls Tryz.prog 24 #[.string s] w fun e w'=>e=.returned (.agg #[.int .u8 73,.int .u32 o,.int .u32 g,.int .u32 f])∧w'=w.alloc (.cells #[.int .u8 73,.int .u32 o,.int .u32 g,.int .u32 f] 64)):=z2v s 73 o g f hp
 have HR:Hid (regV d=true∧regV a=true∧regV b=true):=by
  have h:=hm
  simp[mayV,mayF] at h
  exact⟨h.1.1.1,h.1.1.2,h.1.2⟩
 have rd:=(z1f d).mp HR.out.1
 have ra:=(z1f a).mp HR.out.2.1
 have rb:=(z1f b).mp HR.out.2.2
 have ud:IntKind.u32.wrap d=d:=by rw[IntKind.wrap_u32'];omega
 have ua:IntKind.u32.wrap a=a:=by rw[IntKind.wrap_u32'];omega
 have ub:IntKind.u32.wrap b=b:=by rw[IntKind.wrap_u32'];omega
 have um:=IntKind.wrap_u32' m
 have Hm:Hid (U32 (m%4294967296)):=⟨by omega,by omega⟩
 generalize hM:m%4294967296=M at *
 have HMM:Hid (m%4294967296=M):=hM
 have HH:Hid (mayV ⟨s.toList,d,a,b,m⟩=true):=hm
 have HP:Hid (z0q s.toList=⟨73,o,g,f⟩):=hp
 unfold z4j at hk
 simp at hk
 obtain⟨o0,o1,g0,g1,f0,f1⟩:=hk
 obtain⟨d0,d1⟩:=rd
 obtain⟨a0,a1⟩:=ra
 obtain⟨b0,b1⟩:=rb
 have M0:0≤M:=by omega
 have M1:M<4294967296:=by omega
 clear hm hp hM
 go_enter Tryz.func27,Tryz.ntmps27
 go_wp2_with fail
 refine (HM _).mono ?_
 rintro e w1 ⟨rfl,hb⟩
 obtain⟨hc,hf⟩:=bcell hb
 have hz:=hb.size
 simp at hz
 go_wp2_with fail
 refine (HF _).mono ?_
 rintro e w' ⟨rfl,rfl⟩
 go_wp2_with fail
 obtain⟨k0,k1,k2,k3,k4,q0,q1,z0,z1,f0',f1',f2',f3',bW⟩:=z5b (k:=73) (o:=o) (g:=g) (f:=f) hb
 have HB:Hid _:=bW
 generalize (w1.alloc (.cells #[.int .u8 73,.int .u32 o,.int .u32 g,.int .u32 f] 64)).alloc (.cells #[.int .u8 73,.int .u32 o,.int .u32 g,.int .u32 f] 64)=W at *
 generalize hgf:w1.heap.size+1=G at *
 clear hb hc hf hz bW hgf
 go_quiet (fail)
 go_wp2_with (go_at_call 37;refine (z4k _ _ _ Hm _).mono ?_;rintro e w' ⟨rfl,rfl⟩)
 apply bodyPost_ret (hd:=rfl)
 focus (simp[results,Tryz.results27,go_sem,q0,q1];rfl)
 refine⟨z7x ?_ rfl,?_⟩
 ·have e:putV ⟨s.toList,d,a,b,m⟩=putF ⟨73,o,g,f⟩ d a b m:=by unfold putV;rw[HP.out]
  rw[e]
  simp only[putF]
  rw[HMM.out,show M*1048576%4294967296=M%4096*1048576 by omega]
  exact or_I (z1e M 4096 (by omega)) ⟨a0,a1⟩ ⟨g0,g1⟩ ⟨d0,d1⟩ ⟨o0,o1⟩
 ·exact (((HB.out.trans (z0u _ _ _)).setCell (by simp) _).setCell (by simp) _)
theorem put_67 (s:ByteArray) (d a b m o g f:Int) (hm:mayV ⟨s.toList,d,a,b,m⟩=true) (hp:z0q s.toList=⟨67,o,g,f⟩) (hk:z4j ⟨67,o,g,f⟩) (w:World) :
  Calls Tryz.prog 27 #[.agg #[.string s,.int .i64 d,.int .i64 a,.int .i64 b,.int .i32 m]] w fun e w'=>e=.returned (.agg #[.int .u32 (putV ⟨s.toList,d,a,b,m⟩),.int .i64 0])∧Below w.heap.size w w':=by
 have HM:Hid (∀ w,Calls Tryz.prog 36 #[.agg #[.string s,.int .i64 d,.int .i64 a,.int .i64 b,.int .i32 m]] w fun e w'=>e=.returned (.bool true)∧Below w.heap.size w w'):=by
  intro w
  have h:=rMay s d a b m w
  rw[hm] at h
  exact h
 have HF:Hid (∀ w,Calls Tryz.prog 24 #[.string s] w fun e w'=>e=.returned (.agg #[.int .u8 67,.int .u32 o,.int .u32 g,.int .u32 f])∧w'=w.alloc (.cells #[.int .u8 67,.int .u32 o,.int .u32 g,.int .u32 f] 64)):=z2v s 67 o g f hp
 have HR:Hid (regV d=true∧regV a=true∧regV b=true):=by
  have h:=hm
  simp[mayV,mayF] at h
  exact⟨h.1.1.1,h.1.1.2,h.1.2⟩
 have rd:=(z1f d).mp HR.out.1
 have ra:=(z1f a).mp HR.out.2.1
 have rb:=(z1f b).mp HR.out.2.2
 have ud:IntKind.u32.wrap d=d:=by rw[IntKind.wrap_u32'];omega
 have ua:IntKind.u32.wrap a=a:=by rw[IntKind.wrap_u32'];omega
 have ub:IntKind.u32.wrap b=b:=by rw[IntKind.wrap_u32'];omega
 have um:=IntKind.wrap_u32' m
 have Hm:Hid (U32 (m%4294967296)):=⟨by omega,by omega⟩
 generalize hM:m%4294967296=M at *
 have HMM:Hid (m%4294967296=M):=hM
 have HH:Hid (mayV ⟨s.toList,d,a,b,m⟩=true):=hm
 have HP:Hid (z0q s.toList=⟨67,o,g,f⟩):=hp
 unfold z4j at hk
 simp at hk
 obtain⟨o0,o1,g0,g1,f0,f1⟩:=hk
 obtain⟨d0,d1⟩:=rd
 obtain⟨a0,a1⟩:=ra
 obtain⟨b0,b1⟩:=rb
 have M0:0≤M:=by omega
 have M1:M<4294967296:=by omega
 clear hm hp hM
 go_enter Tryz.func27,Tryz.ntmps27
 go_wp2_with fail
 refine (HM _).mono ?_
 rintro e w1 ⟨rfl,hb⟩
 obtain⟨hc,hf⟩:=bcell hb
 have hz:=hb.size
 simp at hz
 go_wp2_with fail
 refine (HF _).mono ?_
 rintro e w' ⟨rfl,rfl⟩
 go_wp2_with fail
 obtain⟨k0,k1,k2,k3,k4,q0,q1,z0,z1,f0',f1',f2',f3',bW⟩:=z5b (k:=67) (o:=o) (g:=g) (f:=f) hb
 have HB:Hid _:=bW
 generalize (w1.alloc (.cells #[.int .u8 67,.int .u32 o,.int .u32 g,.int .u32 f] 64)).alloc (.cells #[.int .u8 67,.int .u32 o,.int .u32 g,.int .u32 f] 64)=W at *
 generalize hgf:w1.heap.size+1=G at *
 clear hb hc hf hz bW hgf
 go_quiet (fail)
 go_wp2_with (go_at_call 37;refine (z4k _ _ _ Hm _).mono ?_;rintro e w' ⟨rfl,rfl⟩)
 apply bodyPost_ret (hd:=rfl)
 focus (simp[results,Tryz.results27,go_sem,q0,q1];rfl)
 refine⟨z7x ?_ rfl,?_⟩
 ·have e:putV ⟨s.toList,d,a,b,m⟩=putF ⟨67,o,g,f⟩ d a b m:=by unfold putV;rw[HP.out]
  rw[e]
  simp only[putF]
  rw[HMM.out,show M*1048576%4294967296=M%4096*1048576 by omega]
  exact or_I (z1e M 4096 (by omega)) ⟨a0,a1⟩ ⟨g0,g1⟩ ⟨d0,d1⟩ ⟨o0,o1⟩
 ·exact (((HB.out.trans (z0u _ _ _)).setCell (by simp) _).setCell (by simp) _)
theorem put_83 (s:ByteArray) (d a b m o g f:Int) (hm:mayV ⟨s.toList,d,a,b,m⟩=true) (hp:z0q s.toList=⟨83,o,g,f⟩) (hk:z4j ⟨83,o,g,f⟩) (w:World) :
  Calls Tryz.prog 27 #[.agg #[.string s,.int .i64 d,.int .i64 a,.int .i64 b,.int .i32 m]] w fun e w'=>e=.returned (.agg #[.int .u32 (putV ⟨s.toList,d,a,b,m⟩),.int .i64 0])∧Below w.heap.size w w':=by
 have HM:Hid (∀ w,Calls Tryz.prog 36 #[.agg #[.string s,.int .i64 d,.int .i64 a,.int .i64 b,.int .i32 m]] w fun e w'=>e=.returned (.bool true)∧Below w.heap.size w w'):=by
  intro w
  have h:=rMay s d a b m w
  rw[hm] at h
  exact h
 have HF:Hid (∀ w,Calls Tryz.prog 24 #[.string s] w fun e w'=>e=.returned (.agg #[.int .u8 83,.int .u32 o,.int .u32 g,.int .u32 f])∧w'=w.alloc (.cells #[.int .u8 83,.int .u32 o,.int .u32 g,.int .u32 f] 64)):=z2v s 83 o g f hp
 have HR:Hid (regV d=true∧regV a=true∧regV b=true):=by
  have h:=hm
  simp[mayV,mayF] at h
  exact⟨h.1.1.1,h.1.1.2,h.1.2⟩
 have rd:=(z1f d).mp HR.out.1
 have ra:=(z1f a).mp HR.out.2.1
 have rb:=(z1f b).mp HR.out.2.2
 have ud:IntKind.u32.wrap d=d:=by rw[IntKind.wrap_u32'];omega
 have ua:IntKind.u32.wrap a=a:=by rw[IntKind.wrap_u32'];omega
 have ub:IntKind.u32.wrap b=b:=by rw[IntKind.wrap_u32'];omega
 have um:=IntKind.wrap_u32' m
 have Hm:Hid (U32 (m%4294967296)):=⟨by omega,by omega⟩
 generalize hM:m%4294967296=M at *
 have HMM:Hid (m%4294967296=M):=hM
 have HH:Hid (mayV ⟨s.toList,d,a,b,m⟩=true):=hm
 have HP:Hid (z0q s.toList=⟨83,o,g,f⟩):=hp
 unfold z4j at hk
 simp at hk
 obtain⟨o0,o1,g0,g1,f0,f1⟩:=hk
 obtain⟨d0,d1⟩:=rd
 obtain⟨a0,a1⟩:=ra
 obtain⟨b0,b1⟩:=rb
 have M0:0≤M:=by omega
 have M1:M<4294967296:=by omega
 clear hm hp hM
 have hs:M≤31:=by
  have h:=HH.out
  simp[mayV,HP.out,mayF,z4i] at h
  have:=HMM.out
  omega
 go_enter Tryz.func27,Tryz.ntmps27
 go_wp2_with fail
 refine (HM _).mono ?_
 rintro e w1 ⟨rfl,hb⟩
 obtain⟨hc,hf⟩:=bcell hb
 have hz:=hb.size
 simp at hz
 go_wp2_with fail
 refine (HF _).mono ?_
 rintro e w' ⟨rfl,rfl⟩
 go_wp2_with fail
 obtain⟨k0,k1,k2,k3,k4,q0,q1,z0,z1,f0',f1',f2',f3',bW⟩:=z5b (k:=83) (o:=o) (g:=g) (f:=f) hb
 have HB:Hid _:=bW
 generalize (w1.alloc (.cells #[.int .u8 83,.int .u32 o,.int .u32 g,.int .u32 f] 64)).alloc (.cells #[.int .u8 83,.int .u32 o,.int .u32 g,.int .u32 f] 64)=W at *
 generalize hgf:w1.heap.size+1=G at *
 clear hb hc hf hz bW hgf
 go_quiet (fail)
 go_wp2_with (go_at_call 37;refine (z4k _ _ _ Hm _).mono ?_;rintro e w' ⟨rfl,rfl⟩)
 apply bodyPost_ret (hd:=rfl)
 focus (simp[results,Tryz.results27,go_sem,q0,q1];rfl)
 refine⟨z7x ?_ rfl,?_⟩
 ·have e:putV ⟨s.toList,d,a,b,m⟩=putF ⟨83,o,g,f⟩ d a b m:=by unfold putV;rw[HP.out]
  rw[e]
  simp only[putF]
  rw[HMM.out]
  exact or_R ⟨f0,f1⟩ ⟨M0,by omega⟩ ⟨a0,a1⟩ ⟨g0,g1⟩ ⟨d0,d1⟩ ⟨o0,o1⟩
 ·exact (((HB.out.trans (z0u _ _ _)).setCell (by simp) _).setCell (by simp) _)
theorem put_85 (s:ByteArray) (d a b m o g f:Int) (hm:mayV ⟨s.toList,d,a,b,m⟩=true) (hp:z0q s.toList=⟨85,o,g,f⟩) (hk:z4j ⟨85,o,g,f⟩) (w:World) :
  Calls Tryz.prog 27 #[.agg #[.string s,.int .i64 d,.int .i64 a,.int .i64 b,.int .i32 m]] w fun e w'=>e=.returned (.agg #[.int .u32 (putV ⟨s.toList,d,a,b,m⟩),.int .i64 0])∧Below w.heap.size w w':=by
 have HM:Hid (∀ w,Calls Tryz.prog 36 #[.agg #[.string s,.int .i64 d,.int .i64 a,.int .i64 b,.int .i32 m]] w fun e w'=>e=.returned (.bool true)∧Below w.heap.size w w'):=by
  intro w
  have h:=rMay s d a b m w
  rw[hm] at h
  exact h
 have HF:Hid (∀ w,Calls Tryz.prog 24 #[.string s] w fun e w'=>e=.returned (.agg #[.int .u8 85,.int .u32 o,.int .u32 g,.int .u32 f])∧w'=w.alloc (.cells #[.int .u8 85,.int .u32 o,.int .u32 g,.int .u32 f] 64)):=z2v s 85 o g f hp
 have HR:Hid (regV d=true∧regV a=true∧regV b=true):=by
  have h:=hm
  simp[mayV,mayF] at h
  exact⟨h.1.1.1,h.1.1.2,h.1.2⟩
 have rd:=(z1f d).mp HR.out.1
 have ra:=(z1f a).mp HR.out.2.1
 have rb:=(z1f b).mp HR.out.2.2
 have ud:IntKind.u32.wrap d=d:=by rw[IntKind.wrap_u32'];omega
 have ua:IntKind.u32.wrap a=a:=by rw[IntKind.wrap_u32'];omega
 have ub:IntKind.u32.wrap b=b:=by rw[IntKind.wrap_u32'];omega
 have um:=IntKind.wrap_u32' m
 have Hm:Hid (U32 (m%4294967296)):=⟨by omega,by omega⟩
 generalize hM:m%4294967296=M at *
 have HMM:Hid (m%4294967296=M):=hM
 have HH:Hid (mayV ⟨s.toList,d,a,b,m⟩=true):=hm
 have HP:Hid (z0q s.toList=⟨85,o,g,f⟩):=hp
 unfold z4j at hk
 simp at hk
 obtain⟨o0,o1,g0,g1,f0,f1⟩:=hk
 obtain⟨d0,d1⟩:=rd
 obtain⟨a0,a1⟩:=ra
 obtain⟨b0,b1⟩:=rb
 have M0:0≤M:=by omega
 have M1:M<4294967296:=by omega
 clear hm hp hM
 have hs:M<1048576:=by
  have h:=HH.out
  simp[mayV,HP.out,mayF,z4i] at h
  have:=HMM.out
  omega
 go_enter Tryz.func27,Tryz.ntmps27
 go_wp2_with fail
 refine (HM _).mono ?_
 rintro e w1 ⟨rfl,hb⟩
 obtain⟨hc,hf⟩:=bcell hb
 have hz:=hb.size
 simp at hz
 go_wp2_with fail
 refine (HF _).mono ?_
 rintro e w' ⟨rfl,rfl⟩
 go_wp2_with fail
 obtain⟨k0,k1,k2,k3,k4,q0,q1,z0,z1,f0',f1',f2',f3',bW⟩:=z5b (k:=85) (o:=o) (g:=g) (f:=f) hb
 have HB:Hid _:=bW
 generalize (w1.alloc (.cells #[.int .u8 85,.int .u32 o,.int .u32 g,.int .u32 f] 64)).alloc (.cells #[.int .u8 85,.int .u32 o,.int .u32 g,.int .u32 f] 64)=W at *
 generalize hgf:w1.heap.size+1=G at *
 clear hb hc hf hz bW hgf
 go_quiet (fail)
 go_wp2_with (go_at_call 37;refine (z4k _ _ _ Hm _).mono ?_;rintro e w' ⟨rfl,rfl⟩)
 apply bodyPost_ret (hd:=rfl)
 focus (simp[results,Tryz.results27,go_sem,q0,q1];rfl)
 refine⟨z7x ?_ rfl,?_⟩
 ·have e:putV ⟨s.toList,d,a,b,m⟩=putF ⟨85,o,g,f⟩ d a b m:=by unfold putV;rw[HP.out]
  rw[e]
  simp only[putF]
  rw[HMM.out]
  exact or_U ⟨M0,hs⟩ ⟨d0,d1⟩ ⟨o0,o1⟩
 ·exact (((HB.out.trans (z0u _ _ _)).setCell (by simp) _).setCell (by simp) _)
theorem put_115 (s:ByteArray) (d a b m o g f:Int) (hm:mayV ⟨s.toList,d,a,b,m⟩=true) (hp:z0q s.toList=⟨115,o,g,f⟩) (hk:z4j ⟨115,o,g,f⟩) (w:World) :
  Calls Tryz.prog 27 #[.agg #[.string s,.int .i64 d,.int .i64 a,.int .i64 b,.int .i32 m]] w fun e w'=>e=.returned (.agg #[.int .u32 (putV ⟨s.toList,d,a,b,m⟩),.int .i64 0])∧Below w.heap.size w w':=by
 have HM:Hid (∀ w,Calls Tryz.prog 36 #[.agg #[.string s,.int .i64 d,.int .i64 a,.int .i64 b,.int .i32 m]] w fun e w'=>e=.returned (.bool true)∧Below w.heap.size w w'):=by
  intro w
  have h:=rMay s d a b m w
  rw[hm] at h
  exact h
 have HF:Hid (∀ w,Calls Tryz.prog 24 #[.string s] w fun e w'=>e=.returned (.agg #[.int .u8 115,.int .u32 o,.int .u32 g,.int .u32 f])∧w'=w.alloc (.cells #[.int .u8 115,.int .u32 o,.int .u32 g,.int .u32 f] 64)):=z2v s 115 o g f hp
 have HR:Hid (regV d=true∧regV a=true∧regV b=true):=by
  have h:=hm
  simp[mayV,mayF] at h
  exact⟨h.1.1.1,h.1.1.2,h.1.2⟩
 have rd:=(z1f d).mp HR.out.1
 have ra:=(z1f a).mp HR.out.2.1
 have rb:=(z1f b).mp HR.out.2.2
 have ud:IntKind.u32.wrap d=d:=by rw[IntKind.wrap_u32'];omega
 have ua:IntKind.u32.wrap a=a:=by rw[IntKind.wrap_u32'];omega
 have ub:IntKind.u32.wrap b=b:=by rw[IntKind.wrap_u32'];omega
 have um:=IntKind.wrap_u32' m
 have Hm:Hid (U32 (m%4294967296)):=⟨by omega,by omega⟩
 generalize hM:m%4294967296=M at *
 have HMM:Hid (m%4294967296=M):=hM
 have HH:Hid (mayV ⟨s.toList,d,a,b,m⟩=true):=hm
 have HP:Hid (z0q s.toList=⟨115,o,g,f⟩):=hp
 unfold z4j at hk
 simp at hk
 obtain⟨o0,o1,g0,g1,f0,f1⟩:=hk
 obtain⟨d0,d1⟩:=rd
 obtain⟨a0,a1⟩:=ra
 obtain⟨b0,b1⟩:=rb
 have M0:0≤M:=by omega
 have M1:M<4294967296:=by omega
 clear hm hp hM
 have hu:z0j M 5 7=M/2 ^ 5%2 ^ 7:=z0t Hm 5 7 (by omega) (by omega) (by omega)
 have bu:=z1e (M/2 ^ 5) (2 ^ 7) (by omega)
 generalize hxu:M/2 ^ 5%2 ^ 7=u at hu bu
 have Xu:Hid (M/2 ^ 5%2 ^ 7=u):=hxu
 obtain⟨cu,Cu⟩:=bu
 clear hxu
 have hv:z0j M 0 5=M/2 ^ 0%2 ^ 5:=z0t Hm 0 5 (by omega) (by omega) (by omega)
 have bv:=z1e (M/2 ^ 0) (2 ^ 5) (by omega)
 generalize hxv:M/2 ^ 0%2 ^ 5=v at hv bv
 have Xv:Hid (M/2 ^ 0%2 ^ 5=v):=hxv
 obtain⟨cv,Cv⟩:=bv
 clear hxv
 have y0:IntKind.u32.wrap (u*33554432)=u*33554432:=by rw[IntKind.wrap_u32'];omega
 have y1:IntKind.u32.wrap (b*1048576)=b*1048576:=by rw[IntKind.wrap_u32'];omega
 have y2:IntKind.u32.wrap (a*32768)=a*32768:=by rw[IntKind.wrap_u32'];omega
 have y3:IntKind.u32.wrap (v*128)=v*128:=by rw[IntKind.wrap_u32'];omega
 go_enter Tryz.func27,Tryz.ntmps27
 go_wp2_with fail
 refine (HM _).mono ?_
 rintro e w1 ⟨rfl,hb⟩
 obtain⟨hc,hf⟩:=bcell hb
 have hz:=hb.size
 simp at hz
 go_wp2_with fail
 refine (HF _).mono ?_
 rintro e w' ⟨rfl,rfl⟩
 go_wp2_with fail
 obtain⟨k0,k1,k2,k3,k4,q0,q1,z0,z1,f0',f1',f2',f3',bW⟩:=z5b (k:=115) (o:=o) (g:=g) (f:=f) hb
 have HB:Hid _:=bW
 generalize (w1.alloc (.cells #[.int .u8 115,.int .u32 o,.int .u32 g,.int .u32 f] 64)).alloc (.cells #[.int .u8 115,.int .u32 o,.int .u32 g,.int .u32 f] 64)=W at *
 generalize hgf:w1.heap.size+1=G at *
 clear hb hc hf hz bW hgf
 go_quiet (fail)
 go_wp2_with fail
 have F1:(W.drewN nq).cell? ⟨G,1,none⟩=some (.int .u32 o):=f1'
 have Q0:(W.drewN nq).cell? ⟨w.heap.size+1,0,none⟩=some (.int .u32 0):=q0
 have Q1:(W.drewN nq).cell? ⟨w.heap.size+1,1,none⟩=some (.int .i64 0):=q1
 have Z0:(W.drewN nq).frozen? ⟨w.heap.size+1,0,none⟩=false:=z0
 have Z1:(W.drewN nq).frozen? ⟨w.heap.size+1,1,none⟩=false:=z1
 have HB2:Hid (Below w.heap.size w (W.drewN nq)):=HB.out.trans (z0u _ _ _)
 generalize W.drewN nq=V at *
 refine z9o 19 (by kernel_rfl) (by kernel_rfl) ?_
 simp only[List.take_succ_cons,List.take_zero,List.drop_succ_cons,List.drop_zero]
 still_step
 still_call (z4k _ _ _ Hm _)
 still_step
 still_step
 still_step
 still_step
 still_step
 still_step
 still_step
 still_step
 still_step
 still_step
 still_call (z4k _ _ _ Hm _)
 still_step
 still_step
 still_step
 still_step
 still_step
 still_step
 refine wpStill_nil ?_
 go_wp2_with fail
 apply bodyPost_ret (hd:=rfl)
 focus (simp[results,Tryz.results27,go_sem,Q0,Q1];rfl)
 refine⟨z7x ?_ rfl,?_⟩
 ·have e:putV ⟨s.toList,d,a,b,m⟩=putF ⟨115,o,g,f⟩ d a b m:=by unfold putV;rw[HP.out]
  rw[e]
  simp only[putF]
  have Xu':=Xu.out
  have Xv':=Xv.out
  rw[HMM.out,show M/32%128=u from Xu',show M%32=v by rw[← Xv'];omega]
  exact or_R ⟨cu,Cu⟩ ⟨b0,b1⟩ ⟨a0,a1⟩ ⟨g0,g1⟩ ⟨cv,Cv⟩ ⟨o0,o1⟩
 ·exact ((HB2.out.drew.setCell (by simp) _).setCell (by simp) _)
theorem put_66 (s:ByteArray) (d a b m o g f:Int) (hm:mayV ⟨s.toList,d,a,b,m⟩=true) (hp:z0q s.toList=⟨66,o,g,f⟩) (hk:z4j ⟨66,o,g,f⟩) (w:World) :
  Calls Tryz.prog 27 #[.agg #[.string s,.int .i64 d,.int .i64 a,.int .i64 b,.int .i32 m]] w fun e w'=>e=.returned (.agg #[.int .u32 (putV ⟨s.toList,d,a,b,m⟩),.int .i64 0])∧Below w.heap.size w w':=by
 have HM:Hid (∀ w,Calls Tryz.prog 36 #[.agg #[.string s,.int .i64 d,.int .i64 a,.int .i64 b,.int .i32 m]] w fun e w'=>e=.returned (.bool true)∧Below w.heap.size w w'):=by
  intro w
  have h:=rMay s d a b m w
  rw[hm] at h
  exact h
 have HF:Hid (∀ w,Calls Tryz.prog 24 #[.string s] w fun e w'=>e=.returned (.agg #[.int .u8 66,.int .u32 o,.int .u32 g,.int .u32 f])∧w'=w.alloc (.cells #[.int .u8 66,.int .u32 o,.int .u32 g,.int .u32 f] 64)):=z2v s 66 o g f hp
 have HR:Hid (regV d=true∧regV a=true∧regV b=true):=by
  have h:=hm
  simp[mayV,mayF] at h
  exact⟨h.1.1.1,h.1.1.2,h.1.2⟩
 have rd:=(z1f d).mp HR.out.1
 have ra:=(z1f a).mp HR.out.2.1
 have rb:=(z1f b).mp HR.out.2.2
 have ud:IntKind.u32.wrap d=d:=by rw[IntKind.wrap_u32'];omega
 have ua:IntKind.u32.wrap a=a:=by rw[IntKind.wrap_u32'];omega
 have ub:IntKind.u32.wrap b=b:=by rw[IntKind.wrap_u32'];omega
 have um:=IntKind.wrap_u32' m
 have Hm:Hid (U32 (m%4294967296)):=⟨by omega,by omega⟩
 generalize hM:m%4294967296=M at *
 have HMM:Hid (m%4294967296=M):=hM
 have HH:Hid (mayV ⟨s.toList,d,a,b,m⟩=true):=hm
 have HP:Hid (z0q s.toList=⟨66,o,g,f⟩):=hp
 unfold z4j at hk
 simp at hk
 obtain⟨o0,o1,g0,g1,f0,f1⟩:=hk
 obtain⟨d0,d1⟩:=rd
 obtain⟨a0,a1⟩:=ra
 obtain⟨b0,b1⟩:=rb
 have M0:0≤M:=by omega
 have M1:M<4294967296:=by omega
 clear hm hp hM
 have ht:z0j M 12 1=M/2 ^ 12%2 ^ 1:=z0t Hm 12 1 (by omega) (by omega) (by omega)
 have bt:=z1e (M/2 ^ 12) (2 ^ 1) (by omega)
 generalize hxt:M/2 ^ 12%2 ^ 1=t at ht bt
 have Xt:Hid (M/2 ^ 12%2 ^ 1=t):=hxt
 obtain⟨ct,Ct⟩:=bt
 clear hxt
 have hv:z0j M 5 6=M/2 ^ 5%2 ^ 6:=z0t Hm 5 6 (by omega) (by omega) (by omega)
 have bv:=z1e (M/2 ^ 5) (2 ^ 6) (by omega)
 generalize hxv:M/2 ^ 5%2 ^ 6=v at hv bv
 have Xv:Hid (M/2 ^ 5%2 ^ 6=v):=hxv
 obtain⟨cv,Cv⟩:=bv
 clear hxv
 have hx:z0j M 1 4=M/2 ^ 1%2 ^ 4:=z0t Hm 1 4 (by omega) (by omega) (by omega)
 have bx:=z1e (M/2 ^ 1) (2 ^ 4) (by omega)
 generalize hxx:M/2 ^ 1%2 ^ 4=x at hx bx
 have Xx:Hid (M/2 ^ 1%2 ^ 4=x):=hxx
 obtain⟨cx,Cx⟩:=bx
 clear hxx
 have hu:z0j M 11 1=M/2 ^ 11%2 ^ 1:=z0t Hm 11 1 (by omega) (by omega) (by omega)
 have bu:=z1e (M/2 ^ 11) (2 ^ 1) (by omega)
 generalize hxu:M/2 ^ 11%2 ^ 1=u at hu bu
 have Xu:Hid (M/2 ^ 11%2 ^ 1=u):=hxu
 obtain⟨cu,Cu⟩:=bu
 clear hxu
 have y0:IntKind.u32.wrap (t*2147483648)=t*2147483648:=by rw[IntKind.wrap_u32'];omega
 have y1:IntKind.u32.wrap (v*33554432)=v*33554432:=by rw[IntKind.wrap_u32'];omega
 have y2:IntKind.u32.wrap (b*1048576)=b*1048576:=by rw[IntKind.wrap_u32'];omega
 have y3:IntKind.u32.wrap (a*32768)=a*32768:=by rw[IntKind.wrap_u32'];omega
 have y4:IntKind.u32.wrap (x*256)=x*256:=by rw[IntKind.wrap_u32'];omega
 have y5:IntKind.u32.wrap (u*128)=u*128:=by rw[IntKind.wrap_u32'];omega
 go_enter Tryz.func27,Tryz.ntmps27
 go_wp2_with fail
 refine (HM _).mono ?_
 rintro e w1 ⟨rfl,hb⟩
 obtain⟨hc,hf⟩:=bcell hb
 have hz:=hb.size
 simp at hz
 go_wp2_with fail
 refine (HF _).mono ?_
 rintro e w' ⟨rfl,rfl⟩
 go_wp2_with fail
 obtain⟨k0,k1,k2,k3,k4,q0,q1,z0,z1,f0',f1',f2',f3',bW⟩:=z5b (k:=66) (o:=o) (g:=g) (f:=f) hb
 have HB:Hid _:=bW
 generalize (w1.alloc (.cells #[.int .u8 66,.int .u32 o,.int .u32 g,.int .u32 f] 64)).alloc (.cells #[.int .u8 66,.int .u32 o,.int .u32 g,.int .u32 f] 64)=W at *
 generalize hgf:w1.heap.size+1=G at *
 clear hb hc hf hz bW hgf
 go_quiet (fail)
 go_wp2_with fail
 have F1:(W.drewN nq).cell? ⟨G,1,none⟩=some (.int .u32 o):=f1'
 have Q0:(W.drewN nq).cell? ⟨w.heap.size+1,0,none⟩=some (.int .u32 0):=q0
 have Q1:(W.drewN nq).cell? ⟨w.heap.size+1,1,none⟩=some (.int .i64 0):=q1
 have Z0:(W.drewN nq).frozen? ⟨w.heap.size+1,0,none⟩=false:=z0
 have Z1:(W.drewN nq).frozen? ⟨w.heap.size+1,1,none⟩=false:=z1
 have HB2:Hid (Below w.heap.size w (W.drewN nq)):=HB.out.trans (z0u _ _ _)
 generalize W.drewN nq=V at *
 refine z9o 27 (by kernel_rfl) (by kernel_rfl) ?_
 simp only[List.take_succ_cons,List.take_zero,List.drop_succ_cons,List.drop_zero]
 still_step
 still_call (z4k _ _ _ Hm _)
 still_step
 still_step
 still_call (z4k _ _ _ Hm _)
 still_step
 still_step
 still_step
 still_step
 still_step
 still_step
 still_step
 still_step
 still_step
 still_step
 still_step
 still_call (z4k _ _ _ Hm _)
 still_step
 still_step
 still_step
 still_call (z4k _ _ _ Hm _)
 still_step
 still_step
 still_step
 still_step
 still_step
 still_step
 refine wpStill_nil ?_
 go_wp2_with fail
 apply bodyPost_ret (hd:=rfl)
 focus (simp[results,Tryz.results27,go_sem,Q0,Q1];rfl)
 refine⟨z7x ?_ rfl,?_⟩
 ·have e:putV ⟨s.toList,d,a,b,m⟩=putF ⟨66,o,g,f⟩ d a b m:=by unfold putV;rw[HP.out]
  rw[e]
  simp only[putF]
  have Xt':M/4096%2=t:=Xt.out
  have Xv':M/32%64=v:=Xv.out
  have Xx':M/2%16=x:=Xx.out
  have Xu':M/2048%2=u:=Xu.out
  rw[HMM.out,Xt',Xv',Xx',Xu']
  exact or_B ⟨ct,Ct⟩ ⟨cv,Cv⟩ ⟨b0,b1⟩ ⟨a0,a1⟩ ⟨g0,g1⟩ ⟨cx,Cx⟩ ⟨cu,Cu⟩ ⟨o0,o1⟩
 ·exact ((HB2.out.drew.setCell (by simp) _).setCell (by simp) _)
theorem put_74 (s:ByteArray) (d a b m o g f:Int) (hm:mayV ⟨s.toList,d,a,b,m⟩=true) (hp:z0q s.toList=⟨74,o,g,f⟩) (hk:z4j ⟨74,o,g,f⟩) (w:World) :
  Calls Tryz.prog 27 #[.agg #[.string s,.int .i64 d,.int .i64 a,.int .i64 b,.int .i32 m]] w fun e w'=>e=.returned (.agg #[.int .u32 (putV ⟨s.toList,d,a,b,m⟩),.int .i64 0])∧Below w.heap.size w w':=by
 have HM:Hid (∀ w,Calls Tryz.prog 36 #[.agg #[.string s,.int .i64 d,.int .i64 a,.int .i64 b,.int .i32 m]] w fun e w'=>e=.returned (.bool true)∧Below w.heap.size w w'):=by
  intro w
  have h:=rMay s d a b m w
  rw[hm] at h
  exact h
 have HF:Hid (∀ w,Calls Tryz.prog 24 #[.string s] w fun e w'=>e=.returned (.agg #[.int .u8 74,.int .u32 o,.int .u32 g,.int .u32 f])∧w'=w.alloc (.cells #[.int .u8 74,.int .u32 o,.int .u32 g,.int .u32 f] 64)):=z2v s 74 o g f hp
 have HR:Hid (regV d=true∧regV a=true∧regV b=true):=by
  have h:=hm
  simp[mayV,mayF] at h
  exact⟨h.1.1.1,h.1.1.2,h.1.2⟩
 have rd:=(z1f d).mp HR.out.1
 have ra:=(z1f a).mp HR.out.2.1
 have rb:=(z1f b).mp HR.out.2.2
 have ud:IntKind.u32.wrap d=d:=by rw[IntKind.wrap_u32'];omega
 have ua:IntKind.u32.wrap a=a:=by rw[IntKind.wrap_u32'];omega
 have ub:IntKind.u32.wrap b=b:=by rw[IntKind.wrap_u32'];omega
 have um:=IntKind.wrap_u32' m
 have Hm:Hid (U32 (m%4294967296)):=⟨by omega,by omega⟩
 generalize hM:m%4294967296=M at *
 have HMM:Hid (m%4294967296=M):=hM
 have HH:Hid (mayV ⟨s.toList,d,a,b,m⟩=true):=hm
 have HP:Hid (z0q s.toList=⟨74,o,g,f⟩):=hp
 unfold z4j at hk
 simp at hk
 obtain⟨o0,o1,g0,g1,f0,f1⟩:=hk
 obtain⟨d0,d1⟩:=rd
 obtain⟨a0,a1⟩:=ra
 obtain⟨b0,b1⟩:=rb
 have M0:0≤M:=by omega
 have M1:M<4294967296:=by omega
 clear hm hp hM
 have ht:z0j M 20 1=M/2 ^ 20%2 ^ 1:=z0t Hm 20 1 (by omega) (by omega) (by omega)
 have bt:=z1e (M/2 ^ 20) (2 ^ 1) (by omega)
 generalize hxt:M/2 ^ 20%2 ^ 1=t at ht bt
 have Xt:Hid (M/2 ^ 20%2 ^ 1=t):=hxt
 obtain⟨ct,Ct⟩:=bt
 clear hxt
 have hv:z0j M 1 10=M/2 ^ 1%2 ^ 10:=z0t Hm 1 10 (by omega) (by omega) (by omega)
 have bv:=z1e (M/2 ^ 1) (2 ^ 10) (by omega)
 generalize hxv:M/2 ^ 1%2 ^ 10=v at hv bv
 have Xv:Hid (M/2 ^ 1%2 ^ 10=v):=hxv
 obtain⟨cv,Cv⟩:=bv
 clear hxv
 have hu:z0j M 11 1=M/2 ^ 11%2 ^ 1:=z0t Hm 11 1 (by omega) (by omega) (by omega)
 have bu:=z1e (M/2 ^ 11) (2 ^ 1) (by omega)
 generalize hxu:M/2 ^ 11%2 ^ 1=u at hu bu
 have Xu:Hid (M/2 ^ 11%2 ^ 1=u):=hxu
 obtain⟨cu,Cu⟩:=bu
 clear hxu
 have hx:z0j M 12 8=M/2 ^ 12%2 ^ 8:=z0t Hm 12 8 (by omega) (by omega) (by omega)
 have bx:=z1e (M/2 ^ 12) (2 ^ 8) (by omega)
 generalize hxx:M/2 ^ 12%2 ^ 8=x at hx bx
 have Xx:Hid (M/2 ^ 12%2 ^ 8=x):=hxx
 obtain⟨cx,Cx⟩:=bx
 clear hxx
 have y0:IntKind.u32.wrap (t*2147483648)=t*2147483648:=by rw[IntKind.wrap_u32'];omega
 have y1:IntKind.u32.wrap (v*2097152)=v*2097152:=by rw[IntKind.wrap_u32'];omega
 have y2:IntKind.u32.wrap (u*1048576)=u*1048576:=by rw[IntKind.wrap_u32'];omega
 have y3:IntKind.u32.wrap (x*4096)=x*4096:=by rw[IntKind.wrap_u32'];omega
 have y4:IntKind.u32.wrap (d*128)=d*128:=by rw[IntKind.wrap_u32'];omega
 go_enter Tryz.func27,Tryz.ntmps27
 go_wp2_with fail
 refine (HM _).mono ?_
 rintro e w1 ⟨rfl,hb⟩
 obtain⟨hc,hf⟩:=bcell hb
 have hz:=hb.size
 simp at hz
 go_wp2_with fail
 refine (HF _).mono ?_
 rintro e w' ⟨rfl,rfl⟩
 go_wp2_with fail
 obtain⟨k0,k1,k2,k3,k4,q0,q1,z0,z1,f0',f1',f2',f3',bW⟩:=z5b (k:=74) (o:=o) (g:=g) (f:=f) hb
 have HB:Hid _:=bW
 generalize (w1.alloc (.cells #[.int .u8 74,.int .u32 o,.int .u32 g,.int .u32 f] 64)).alloc (.cells #[.int .u8 74,.int .u32 o,.int .u32 g,.int .u32 f] 64)=W at *
 generalize hgf:w1.heap.size+1=G at *
 clear hb hc hf hz bW hgf
 go_quiet (fail)
 go_wp2_with fail
 have F1:(W.drewN nq).cell? ⟨G,1,none⟩=some (.int .u32 o):=f1'
 have Q0:(W.drewN nq).cell? ⟨w.heap.size+1,0,none⟩=some (.int .u32 0):=q0
 have Q1:(W.drewN nq).cell? ⟨w.heap.size+1,1,none⟩=some (.int .i64 0):=q1
 have Z0:(W.drewN nq).frozen? ⟨w.heap.size+1,0,none⟩=false:=z0
 have Z1:(W.drewN nq).frozen? ⟨w.heap.size+1,1,none⟩=false:=z1
 have HB2:Hid (Below w.heap.size w (W.drewN nq)):=HB.out.trans (z0u _ _ _)
 generalize W.drewN nq=V at *
 refine z9o 22 (by kernel_rfl) (by kernel_rfl) ?_
 simp only[List.take_succ_cons,List.take_zero,List.drop_succ_cons,List.drop_zero]
 still_step
 still_call (z4k _ _ _ Hm _)
 still_step
 still_step
 still_call (z4k _ _ _ Hm _)
 still_step
 still_step
 still_step
 still_call (z4k _ _ _ Hm _)
 still_step
 still_step
 still_step
 still_call (z4k _ _ _ Hm _)
 still_step
 still_step
 still_step
 still_step
 still_step
 still_step
 still_step
 still_step
 still_step
 refine wpStill_nil ?_
 go_wp2_with fail
 apply bodyPost_ret (hd:=rfl)
 focus (simp[results,Tryz.results27,go_sem,Q0,Q1];rfl)
 refine⟨z7x ?_ rfl,?_⟩
 ·have e:putV ⟨s.toList,d,a,b,m⟩=putF ⟨74,o,g,f⟩ d a b m:=by unfold putV;rw[HP.out]
  rw[e]
  simp only[putF]
  have Xt':M/1048576%2=t:=Xt.out
  have Xv':M/2%1024=v:=Xv.out
  have Xx':M/4096%256=x:=Xx.out
  have Xu':M/2048%2=u:=Xu.out
  rw[HMM.out,Xt',Xv',Xx',Xu']
  exact or_J ⟨ct,Ct⟩ ⟨cv,Cv⟩ ⟨cu,Cu⟩ ⟨cx,Cx⟩ ⟨d0,d1⟩ ⟨o0,o1⟩
 ·exact ((HB2.out.drew.setCell (by simp) _).setCell (by simp) _)
theorem put_87 (s:ByteArray) (d a b m o g f:Int) (hm:mayV ⟨s.toList,d,a,b,m⟩=true) (hp:z0q s.toList=⟨87,o,g,f⟩) (hk:z4j ⟨87,o,g,f⟩) (w:World) :
  Calls Tryz.prog 27 #[.agg #[.string s,.int .i64 d,.int .i64 a,.int .i64 b,.int .i32 m]] w fun e w'=>e=.returned (.agg #[.int .u32 (putV ⟨s.toList,d,a,b,m⟩),.int .i64 0])∧Below w.heap.size w w':=by
 have HM:Hid (∀ w,Calls Tryz.prog 36 #[.agg #[.string s,.int .i64 d,.int .i64 a,.int .i64 b,.int .i32 m]] w fun e w'=>e=.returned (.bool true)∧Below w.heap.size w w'):=by
  intro w
  have h:=rMay s d a b m w
  rw[hm] at h
  exact h
 have HF:Hid (∀ w,Calls Tryz.prog 24 #[.string s] w fun e w'=>e=.returned (.agg #[.int .u8 87,.int .u32 o,.int .u32 g,.int .u32 f])∧w'=w.alloc (.cells #[.int .u8 87,.int .u32 o,.int .u32 g,.int .u32 f] 64)):=z2v s 87 o g f hp
 have HR:Hid (regV d=true∧regV a=true∧regV b=true):=by
  have h:=hm
  simp[mayV,mayF] at h
  exact⟨h.1.1.1,h.1.1.2,h.1.2⟩
 have rd:=(z1f d).mp HR.out.1
 have ra:=(z1f a).mp HR.out.2.1
 have rb:=(z1f b).mp HR.out.2.2
 have ud:IntKind.u32.wrap d=d:=by rw[IntKind.wrap_u32'];omega
 have ua:IntKind.u32.wrap a=a:=by rw[IntKind.wrap_u32'];omega
 have ub:IntKind.u32.wrap b=b:=by rw[IntKind.wrap_u32'];omega
 have um:=IntKind.wrap_u32' m
 have Hm:Hid (U32 (m%4294967296)):=⟨by omega,by omega⟩
 generalize hM:m%4294967296=M at *
 have HMM:Hid (m%4294967296=M):=hM
 have HH:Hid (mayV ⟨s.toList,d,a,b,m⟩=true):=hm
 have HP:Hid (z0q s.toList=⟨87,o,g,f⟩):=hp
 unfold z4j at hk
 simp at hk
 obtain⟨o0,o1⟩:=hk
 obtain⟨d0,d1⟩:=rd
 obtain⟨a0,a1⟩:=ra
 obtain⟨b0,b1⟩:=rb
 have M0:0≤M:=by omega
 have M1:M<4294967296:=by omega
 clear hm hp hM
 go_enter Tryz.func27,Tryz.ntmps27
 go_wp2_with fail
 refine (HM _).mono ?_
 rintro e w1 ⟨rfl,hb⟩
 obtain⟨hc,hf⟩:=bcell hb
 have hz:=hb.size
 simp at hz
 go_wp2_with fail
 refine (HF _).mono ?_
 rintro e w' ⟨rfl,rfl⟩
 go_wp2_with fail
 obtain⟨k0,k1,k2,k3,k4,q0,q1,z0,z1,f0',f1',f2',f3',bW⟩:=z5b (k:=87) (o:=o) (g:=g) (f:=f) hb
 have HB:Hid _:=bW
 generalize (w1.alloc (.cells #[.int .u8 87,.int .u32 o,.int .u32 g,.int .u32 f] 64)).alloc (.cells #[.int .u8 87,.int .u32 o,.int .u32 g,.int .u32 f] 64)=W at *
 generalize hgf:w1.heap.size+1=G at *
 clear hb hc hf hz bW hgf
 go_quiet (fail)
 go_wp2_with (go_at_call 37;refine (z4k _ _ _ Hm _).mono ?_;rintro e w' ⟨rfl,rfl⟩)
 apply bodyPost_ret (hd:=rfl)
 focus (simp[results,Tryz.results27,go_sem,q0,q1];rfl)
 refine⟨z7x ?_ rfl,?_⟩
 ·have e:putV ⟨s.toList,d,a,b,m⟩=putF ⟨87,o,g,f⟩ d a b m:=by unfold putV;rw[HP.out]
  rw[e]
  simp only[putF]
  rfl
 ·exact (((HB.out.trans (z0u _ _ _)).setCell (by simp) _).setCell (by simp) _)
theorem ws12 {q:Int} (h0:0≤q) (h1:q<4096):wrap32 (z2g q 12)=sx 2048 4096 q:=by
 have e:z2g q 12=wrap32 (q*1048576%4294967296)/1048576%4294967296:=rfl
 rw[e];unfold wrap32 sx;split <;> omega
theorem ws13 {q:Int} (h0:0≤q) (h1:q<8192):wrap32 (z2g q 13)=sx 4096 8192 q:=by
 have e:z2g q 13=wrap32 (q*524288%4294967296)/524288%4294967296:=rfl
 rw[e];unfold wrap32 sx;split <;> omega
theorem ws21 {q:Int} (h0:0≤q) (h1:q<2097152):wrap32 (z2g q 21)=sx 1048576 2097152 q:=by
 have e:z2g q 21=wrap32 (q*2048%4294967296)/2048%4294967296:=rfl
 rw[e];unfold wrap32 sx;split <;> omega
def putN (i:MIns):Int:=if mayV i then putV i else 0
def putE (i:MIns):Int:=if mayV i then 0 else 1
theorem rPut (s:ByteArray) (d a b m:Int) (w:World) :
  Calls Tryz.prog 27 #[.agg #[.string s,.int .i64 d,.int .i64 a,.int .i64 b,.int .i32 m]] w fun e w'=>e=.returned (.agg #[.int .u32 (putN ⟨s.toList,d,a,b,m⟩),.int .i64 (putE ⟨s.toList,d,a,b,m⟩)])∧Below w.heap.size w w':=by
 cases hm:mayV ⟨s.toList,d,a,b,m⟩ with
 | false=>
  unfold putN putE
  rw[hm]
  exact put_not s d a b m hm w
 | true=>
  unfold putN putE
  rw[hm]
  have hg:z4j (z0q s.toList):=z5o _ (may_known hm)
  cases hp:z0q s.toList with
  | mk k o g f=>
   have h:=kinds s.toList
   rw[hp] at h hg
   simp only at h
   rcases h with rfl | rfl | rfl | rfl | rfl | rfl | rfl | rfl | rfl | rfl
   ·exact put_82 s d a b m o g f hm hp hg w
   ·exact put_73 s d a b m o g f hm hp hg w
   ·exact put_83 s d a b m o g f hm hp hg w
   ·exact put_115 s d a b m o g f hm hp hg w
   ·exact put_66 s d a b m o g f hm hp hg w
   ·exact put_85 s d a b m o g f hm hp hg w
   ·exact put_74 s d a b m o g f hm hp hg w
   ·exact put_67 s d a b m o g f hm hp hg w
   ·exact put_87 s d a b m o g f hm hp hg w
   ·unfold z4j at hg
    simp at hg
def namesL:List Value:=[Value.string { data:=#[97,100,100] },Value.string { data:=#[115,117,98] },Value.string { data:=#[115,108,108] },Value.string { data:=#[115,108,116] },Value.string { data:=#[115,108,116,117] },Value.string { data:=#[120,111,114] },Value.string { data:=#[115,114,108] },Value.string { data:=#[115,114,97] },Value.string { data:=#[111,114] },Value.string { data:=#[97,110,100] },Value.string { data:=#[109,117,108] },Value.string { data:=#[109,117,108,104] },Value.string { data:=#[109,117,108,104,115,117] },Value.string { data:=#[109,117,108,104,117] },Value.string { data:=#[100,105,118] },Value.string { data:=#[100,105,118,117] },Value.string { data:=#[114,101,109] },Value.string { data:=#[114,101,109,117] }]
def moreL:List Value:=[Value.string { data:=#[97,100,100,105] },Value.string { data:=#[115,108,116,105] },Value.string { data:=#[115,108,116,105,117] },Value.string { data:=#[120,111,114,105] },Value.string { data:=#[111,114,105] },Value.string { data:=#[97,110,100,105] },Value.string { data:=#[115,108,108,105] },Value.string { data:=#[115,114,108,105] },Value.string { data:=#[115,114,97,105] },Value.string { data:=#[108,98] },Value.string { data:=#[108,104] },Value.string { data:=#[108,119] },Value.string { data:=#[108,98,117] },Value.string { data:=#[108,104,117] },Value.string { data:=#[106,97,108,114] },Value.string { data:=#[115,98] },Value.string { data:=#[115,104] },Value.string { data:=#[115,119] },Value.string { data:=#[98,101,113] },Value.string { data:=#[98,110,101] },Value.string { data:=#[98,108,116] },Value.string { data:=#[98,103,101] },Value.string { data:=#[98,108,116,117] },Value.string { data:=#[98,103,101,117] },Value.string { data:=#[108,117,105] },Value.string { data:=#[97,117,105,112,99] },Value.string { data:=#[106,97,108] },Value.string { data:=#[99,115,114,114,119] },Value.string { data:=#[99,115,114,114,115] },Value.string { data:=#[99,115,114,114,99] },Value.string { data:=#[101,99,97,108,108] },Value.string { data:=#[101,98,114,101,97,107] },Value.string { data:=#[109,114,101,116] },Value.string { data:=#[119,102,105] },Value.string { data:=#[102,101,110,99,101] }]
def opAt:Nat→ByteArray
 | 0=>{ data:=#[97,100,100] }
 | 1=>{ data:=#[115,117,98] }
 | 2=>{ data:=#[115,108,108] }
 | 3=>{ data:=#[115,108,116] }
 | 4=>{ data:=#[115,108,116,117] }
 | 5=>{ data:=#[120,111,114] }
 | 6=>{ data:=#[115,114,108] }
 | 7=>{ data:=#[115,114,97] }
 | 8=>{ data:=#[111,114] }
 | 9=>{ data:=#[97,110,100] }
 | 10=>{ data:=#[109,117,108] }
 | 11=>{ data:=#[109,117,108,104] }
 | 12=>{ data:=#[109,117,108,104,115,117] }
 | 13=>{ data:=#[109,117,108,104,117] }
 | 14=>{ data:=#[100,105,118] }
 | 15=>{ data:=#[100,105,118,117] }
 | 16=>{ data:=#[114,101,109] }
 | 17=>{ data:=#[114,101,109,117] }
 | 18=>{ data:=#[97,100,100,105] }
 | 19=>{ data:=#[115,108,116,105] }
 | 20=>{ data:=#[115,108,116,105,117] }
 | 21=>{ data:=#[120,111,114,105] }
 | 22=>{ data:=#[111,114,105] }
 | 23=>{ data:=#[97,110,100,105] }
 | 24=>{ data:=#[115,108,108,105] }
 | 25=>{ data:=#[115,114,108,105] }
 | 26=>{ data:=#[115,114,97,105] }
 | 27=>{ data:=#[108,98] }
 | 28=>{ data:=#[108,104] }
 | 29=>{ data:=#[108,119] }
 | 30=>{ data:=#[108,98,117] }
 | 31=>{ data:=#[108,104,117] }
 | 32=>{ data:=#[106,97,108,114] }
 | 33=>{ data:=#[115,98] }
 | 34=>{ data:=#[115,104] }
 | 35=>{ data:=#[115,119] }
 | 36=>{ data:=#[98,101,113] }
 | 37=>{ data:=#[98,110,101] }
 | 38=>{ data:=#[98,108,116] }
 | 39=>{ data:=#[98,103,101] }
 | 40=>{ data:=#[98,108,116,117] }
 | 41=>{ data:=#[98,103,101,117] }
 | 42=>{ data:=#[108,117,105] }
 | 43=>{ data:=#[97,117,105,112,99] }
 | 44=>{ data:=#[106,97,108] }
 | 45=>{ data:=#[99,115,114,114,119] }
 | 46=>{ data:=#[99,115,114,114,115] }
 | 47=>{ data:=#[99,115,114,114,99] }
 | 48=>{ data:=#[101,99,97,108,108] }
 | 49=>{ data:=#[101,98,114,101,97,107] }
 | 50=>{ data:=#[109,114,101,116] }
 | 51=>{ data:=#[119,102,105] }
 | _=>{ data:=#[102,101,110,99,101] }
theorem opAt_all (k:Nat) (h:k<53):(namesL++moreL)[k]?=some (.string (opAt k)):=by
 have h':k=0∨k=1∨k=2∨k=3∨k=4∨k=5∨k=6∨k=7∨k=8∨k=9∨k=10∨k=11∨k=12∨k=13∨k=14∨k=15∨k=16∨k=17∨k=18∨k=19∨k=20∨k=21∨k=22∨k=23∨k=24∨k=25∨k=26∨k=27∨k=28∨k=29∨k=30∨k=31∨k=32∨k=33∨k=34∨k=35∨k=36∨k=37∨k=38∨k=39∨k=40∨k=41∨k=42∨k=43∨k=44∨k=45∨k=46∨k=47∨k=48∨k=49∨k=50∨k=51∨k=52:=by omega
 rcases h' with rfl | rfl | rfl | rfl | rfl | rfl | rfl | rfl | rfl | rfl | rfl | rfl | rfl | rfl | rfl | rfl | rfl | rfl | rfl | rfl | rfl | rfl | rfl | rfl | rfl | rfl | rfl | rfl | rfl | rfl | rfl | rfl | rfl | rfl | rfl | rfl | rfl | rfl | rfl | rfl | rfl | rfl | rfl | rfl | rfl | rfl | rfl | rfl | rfl | rfl | rfl | rfl | rfl <;> rfl
theorem rNames (w:World) :
  Calls Tryz.prog 34 #[] w fun e w'=>e=.returned (.slice (some ⟨w.heap.size,0,none⟩) 18 18)∧w'=w.alloc (.cells namesL.toArray 9):=by
 go_enter Tryz.func34,Tryz.ntmps34
 go_wp2
 go_ret
 exact⟨rfl,rfl⟩
theorem infoS:(Tryz.prog.info? 9).map (fun i=>(i.zero,i.size,i.bytes))=some (some (.string ByteArray.empty),1,16):=by kernel_rfl
theorem rOps (w:World) :
  Calls Tryz.prog 23 #[] w fun e w'=>∃ g cap,e=.returned (.slice (some ⟨g,0,none⟩) 53 cap)∧w.heap.size≤g∧g<w'.heap.size∧Below w.heap.size w w'∧∀ k,k<53→w'.cell? ⟨g,k,none⟩=some (.string (opAt k)):=by
 obtain⟨i0,hi,hz0,hz1,hz2⟩:=info_parts infoS
 go_enter Tryz.func23,Tryz.ntmps23
 go_wp2_with (first | (go_at_call 34;refine (rNames _).mono ?_;rintro e w' ⟨rfl,rfl⟩) | (at_builtin;refine wpList_append_grows _ rfl (.tmp 1) (.tmp 2) 60 rfl 9 i0 (.string ByteArray.empty) 1 16 Tryz.underlying60 hi hz0 hz1 hz2 rfl (by decide) (some ⟨w.heap.size,0,none⟩) 18 18 namesL rfl (fun h=>by cases h) rfl ?c0 ⟨w.heap.size+1,0,none⟩ 35 35 moreL rfl rfl ?c1 ?c2 (by omega) (by unfold maxLen;omega) (by omega) ?grow))
 case c0=>
  intro b hb j u hj
  obtain rfl:=Option.some.inj hb
  rw[Addr.add_lit,Nat.zero_add,World.cell?_alloc_lt _ _ _ (by simp)]
  exact cell_new _ _ _ _ _ hj
 case c1=>
  intro j u hj
  have e:(w.alloc (.cells namesL.toArray 9)).heap.size=w.heap.size+1:=by simp
  rw[Addr.add_lit,Nat.zero_add,← e]
  exact cell_new _ _ _ _ _ hj
 case c2=>
  have h:moreL.all (fun u=>u.oneCell')=true:=by rfl
  exact fun u hu=>List.all_eq_true.mp h u hu
 case grow=>
  intro v' w' hown hgrow
  obtain⟨hl,⟨_,h0⟩ | ⟨g,cap,cur,rfl,hg,hh,h1,h2,h3,h4⟩⟩:=hown
  ·omega
  go_wp2
  go_ret
  refine⟨g,cap,rfl,by omega,?_,(((Below.refl _ _).alloc (Nat.le_refl _) _).alloc (by simp) _).grown hgrow (by simp;omega) (fun k h=>by cases h),?_⟩
  ·exact (Array.getElem?_eq_some_iff.mp hh).1
  ·intro k hk
   have h5:=opAt_all k hk
   rw[← h4,List.getElem?_take_of_lt (by omega)] at h5
   simp[World.cell?,hh]
   simpa using h5
theorem z7o:z3w.length=53:=by rfl
def z1d (k:Nat):List UInt8 × z5f:=z3w.getD k ([],noForm)
theorem z9b (k:Nat) (h:k<53):z3w[k]?=some (z1d k):=by
 unfold z1d
 rw[List.getD_eq_getElem?_getD]
 have:z3w[k]?=some (z3w[k]'(by rw[z7o];exact h)):=List.getElem?_eq_getElem _
 rw[this];rfl
theorem z6n (k:Nat) (h:k<53):z1d k∈z3w:=List.mem_of_getElem? (z9b k h)
theorem opAt_form (k:Nat) (h:k<53):(opAt k).toList=(z1d k).1:=by
 have h':k=0∨k=1∨k=2∨k=3∨k=4∨k=5∨k=6∨k=7∨k=8∨k=9∨k=10∨k=11∨k=12∨k=13∨k=14∨k=15∨k=16∨k=17∨k=18∨k=19∨k=20∨k=21∨k=22∨k=23∨k=24∨k=25∨k=26∨k=27∨k=28∨k=29∨k=30∨k=31∨k=32∨k=33∨k=34∨k=35∨k=36∨k=37∨k=38∨k=39∨k=40∨k=41∨k=42∨k=43∨k=44∨k=45∨k=46∨k=47∨k=48∨k=49∨k=50∨k=51∨k=52:=by omega
 rcases h' with rfl | rfl | rfl | rfl | rfl | rfl | rfl | rfl | rfl | rfl | rfl | rfl | rfl | rfl | rfl | rfl | rfl | rfl | rfl | rfl | rfl | rfl | rfl | rfl | rfl | rfl | rfl | rfl | rfl | rfl | rfl | rfl | rfl | rfl | rfl | rfl | rfl | rfl | rfl | rfl | rfl | rfl | rfl | rfl | rfl | rfl | rfl | rfl | rfl | rfl | rfl | rfl | rfl <;> simp[go_sem,opAt,z1d,z3w]
theorem formV_opAt (k:Nat) (h:k<53):z0q (opAt k).toList=(z1d k).2:=by
 rw[opAt_form k h];exact z4s (z6n k h)
theorem kind_ne (k:Nat) (h:k<53):(z0q (opAt k).toList).k≠0:=by
 rw[formV_opAt k h]
 have hg:=z5o _ (z6n k h)
 unfold z4j at hg
 omega
def noneOf (x:Int) (k:Nat):Prop:=∀ j,j<k→hasB (z1d j).2 x=false
theorem find_not {x:Int} (hn:noneOf x 53):getV x=none:=by
 unfold getV
 have:z3w.find? (fun q=>hasB q.2 x)=none:=by
  rw[List.find?_eq_none]
  intro q hq
  obtain⟨j,hj,rfl⟩:=List.mem_iff_getElem.mp hq
  have h2:=z9b j (by rw[← z7o];exact hj)
  rw[List.getElem?_eq_getElem hj] at h2
  rw[Option.some.inj h2,hn j (by rw[← z7o];exact hj)]
  simp
 rw[this];rfl
def toldOf (x:Int) (s:ByteArray) (d a b m:Int) (ok:Bool):Prop:=
 (ok=true∧getV x=some ⟨s.toList,d,a,b,m⟩)∨(ok=false∧s=⟨#[]⟩∧d=0∧a=0∧b=0∧m=0∧getV x=none)
end Go.Proofs.YtilcoimelnpkeaaGreatDoor
