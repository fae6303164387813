/-
  Contracts of functions that the statement reaches, and what they are made of, callees first.
-/
import Derived.Test.YtbmnmbkgdalkcaaGreatDoorPzo
set_option maxRecDepth 100000
set_option maxHeartbeats 8000000
namespace Go.Proofs.YtbmnmbkgdalkcaaGreatDoor
open Go.RowKit
theorem rKind (s:ByteArray) (k o g f:Int) (hp:z0q s.toList=⟨k,o,g,f⟩) (w:World) :
  Calls Tryz.prog 19 #[.string s] w fun e w'=>e=.returned (.int .u8 k)∧w'=w.alloc (.cells #[.int .u8 k,.int .u32 o,.int .u32 g,.int .u32 f] 78):=by
 have HF:Hid (∀ w,Calls Tryz.prog 36 #[.string s] w fun e w'=>e=.returned (.agg #[.int .u8 k,.int .u32 o,.int .u32 g,.int .u32 f])∧w'=w.alloc (.cells #[.int .u8 k,.int .u32 o,.int .u32 g,.int .u32 f] 78)):=z2v s k o g f hp
 have hf:=fldk
 clear hp
 go_enter Tryz.func19,Tryz.ntmps19
 go_wp2_with (go_at_call 36;refine (HF _).mono ?_;rintro e w' ⟨rfl,rfl⟩)
 go_ret
 exact⟨rfl,rfl⟩
theorem z5c {w w1:World} (hb:Below (w.alloc (.cells #[.string ⟨#[]⟩,.int .i64 0,.int .i64 0,.int .i64 0,.int .i32 0] 52)).heap.size (w.alloc (.cells #[.string ⟨#[]⟩,.int .i64 0,.int .i64 0,.int .i64 0,.int .i32 0] 52)) w1) :
  (w1.cell? ⟨w.heap.size,0,none⟩=some (.string ⟨#[]⟩)∧w1.cell? ⟨w.heap.size,1,none⟩=some (.int .i64 0)∧w1.cell? ⟨w.heap.size,2,none⟩=some (.int .i64 0)∧w1.cell? ⟨w.heap.size,3,none⟩=some (.int .i64 0)∧w1.cell? ⟨w.heap.size,4,none⟩=some (.int .i32 0))∧(∀ i,w1.frozen? ⟨w.heap.size,i,none⟩=false)∧Below w.heap.size w w1∧w.heap.size<w1.heap.size:=by
 have hz:=hb.size
 simp at hz
 have C:∀ (i:Nat) (v:Value),(w.alloc (.cells #[.string ⟨#[]⟩,.int .i64 0,.int .i64 0,.int .i64 0,.int .i32 0] 52)).cell? ⟨w.heap.size,i,none⟩=some v→w1.cell? ⟨w.heap.size,i,none⟩=some v:=by
  intro i v hv
  rw[hb.cell (p:=⟨w.heap.size,i,none⟩) (by simp)]
  exact hv
 refine⟨⟨C _ _ (by simp[go_sem]),C _ _ (by simp[go_sem]),C _ _ (by simp[go_sem]),C _ _ (by simp[go_sem]),C _ _ (by simp[go_sem])⟩,?_,?_,by omega⟩
 ·intro i
  rw[hb.frozen (p:=⟨w.heap.size,i,none⟩) (by simp),frozen?_alloc_cells]
  simp[World.frozen?]
 ·exact ((Below.refl _ _).alloc (Nat.le_refl _) _).trans (hb.mono (by simp))
theorem z7w {V:World} {B:Nat} {u0 u1 u2 u3 u4 v0 v1 v2 v3 v4:Value} (h0:V.cell? ⟨B,0,none⟩=some u0) (h1:V.cell? ⟨B,1,none⟩=some u1) (h2:V.cell? ⟨B,2,none⟩=some u2) (h3:V.cell? ⟨B,3,none⟩=some u3) (h4:V.cell? ⟨B,4,none⟩=some u4) :
  (((((V.setCell ⟨B,0,none⟩ v0).setCell ⟨B,1,none⟩ v1).setCell ⟨B,2,none⟩ v2).setCell ⟨B,3,none⟩ v3).setCell ⟨B,4,none⟩ v4).cell? ⟨B,0,none⟩=some v0∧(((((V.setCell ⟨B,0,none⟩ v0).setCell ⟨B,1,none⟩ v1).setCell ⟨B,2,none⟩ v2).setCell ⟨B,3,none⟩ v3).setCell ⟨B,4,none⟩ v4).cell? ⟨B,1,none⟩=some v1∧(((((V.setCell ⟨B,0,none⟩ v0).setCell ⟨B,1,none⟩ v1).setCell ⟨B,2,none⟩ v2).setCell ⟨B,3,none⟩ v3).setCell ⟨B,4,none⟩ v4).cell? ⟨B,2,none⟩=some v2∧(((((V.setCell ⟨B,0,none⟩ v0).setCell ⟨B,1,none⟩ v1).setCell ⟨B,2,none⟩ v2).setCell ⟨B,3,none⟩ v3).setCell ⟨B,4,none⟩ v4).cell? ⟨B,3,none⟩=some v3∧(((((V.setCell ⟨B,0,none⟩ v0).setCell ⟨B,1,none⟩ v1).setCell ⟨B,2,none⟩ v2).setCell ⟨B,3,none⟩ v3).setCell ⟨B,4,none⟩ v4).cell? ⟨B,4,none⟩=some v4:=by
 simp[go_sem,h0,h1,h2,h3,h4]
theorem z4g {V w:World} {B:Nat} {v0 v1 v2 v3 v4:Value} (h:Below B w V):Below B w (((((V.setCell ⟨B,0,none⟩ v0).setCell ⟨B,1,none⟩ v1).setCell ⟨B,2,none⟩ v2).setCell ⟨B,3,none⟩ v3).setCell ⟨B,4,none⟩ v4):=
 ((((h.setCell (Nat.le_refl _) _).setCell (Nat.le_refl _) _).setCell (Nat.le_refl _) _).setCell (Nat.le_refl _) _).setCell (Nat.le_refl _) _
theorem ins_82 (c d a b m o g f:Int) (hc:0≤c∧c≤255) (hd:0≤d∧d≤255) (ha:0≤a∧a≤255) (hb:0≤b∧b≤255) (hm:-2147483648≤m∧m≤2147483647) (hp:z0q (opAt (c%53).toNat).toList=⟨82,o,g,f⟩) (w:World) :
  Calls Tryz.prog 18 #[.int .u8 c,.int .u8 d,.int .u8 a,.int .u8 b,.int .i32 m] w fun e w'=>e=.returned (.agg #[.string (opAt (c%53).toNat),.int .i64 (d%32),.int .i64 (a%32),.int .i64 (b%32),.int .i32 (0)])∧Below w.heap.size w w':=by
 have k0:0≤c%53:=by omega
 have k1:c%53<53:=by omega
 generalize hk:c%53=k at *
 have HK:Hid (∀ w,Calls Tryz.prog 19 #[.string (opAt k.toNat)] w fun e w'=>e=.returned (.int .u8 82)∧w'=w.alloc (.cells #[.int .u8 82,.int .u32 o,.int .u32 g,.int .u32 f] 78)):=rKind _ 82 o g f hp
 obtain⟨c0,c1⟩:=hc
 obtain⟨d0,d1⟩:=hd
 obtain⟨a0,a1⟩:=ha
 obtain⟨b0,b1⟩:=hb
 obtain⟨m0,m1⟩:=hm
 clear hp
 generalize hs:opAt k.toNat=s at *
 have HS:Hid (opAt k.toNat=s):=hs
 clear hs
 go_enter Tryz.func18,Tryz.ntmps18
 go_wp2_with fail
 refine (rOps _).mono ?_
 rintro e w1 ⟨G,cap,rfl,hg0,hg1,hb1,hcells⟩
 have hcell:=hcells k.toNat (by omega)
 rw[HS.out] at hcell
 obtain⟨⟨t0,t1,t2,t3,t4⟩,fz,bW,sz⟩:=z5c hb1
 have HW:Hid (Below w.heap.size w w1):=bW
 clear hcells hb1 hg0 bW
 go_wp2_with (go_at_call 19;refine (HK _).mono ?_;rintro e w' ⟨rfl,rfl⟩)
 obtain⟨y0,y1,y2,y3,y4⟩:=z7w (v0:=.string s) (v1:=.int .i64 (d%32)) (v2:=.int .i64 (a%32)) (v3:=.int .i64 (b%32)) (v4:=.int .i32 (0)) t0 t1 t2 t3 t4
 have HF5:=z4g (v0:=.string s) (v1:=.int .i64 (d%32)) (v2:=.int .i64 (a%32)) (v3:=.int .i64 (b%32)) (v4:=.int .i32 (0)) HW.out
 have sY:=World.block_lt_of_cell? _ _ y0
 generalize ((((w1.setCell ⟨w.heap.size,0,none⟩ (.string s)).setCell ⟨w.heap.size,1,none⟩ (.int .i64 (d%32))).setCell ⟨w.heap.size,2,none⟩ (.int .i64 (a%32))).setCell ⟨w.heap.size,3,none⟩ (.int .i64 (b%32))).setCell ⟨w.heap.size,4,none⟩ (.int .i32 (0))=Y at *
 simp only at sY
 have sY':w.heap.size<Y.heap.size+1:=by omega
 refine bodyPost_ret (v:=.agg #[.string s,.int .i64 (d%32),.int .i64 (a%32),.int .i64 (b%32),.int .i32 (0)]) ?_ rfl ?_
 ·simp[results,Tryz.results18,go_sem,y0,y1,y2,y3,y4,sY,sY']
 ·exact⟨rfl,(HF5.alloc (Nat.le_of_lt sY) _).alloc (by simp;omega) _⟩
theorem ins_73 (c d a b m o g f:Int) (hc:0≤c∧c≤255) (hd:0≤d∧d≤255) (ha:0≤a∧a≤255) (hb:0≤b∧b≤255) (hm:-2147483648≤m∧m≤2147483647) (hp:z0q (opAt (c%53).toNat).toList=⟨73,o,g,f⟩) (w:World) :
  Calls Tryz.prog 18 #[.int .u8 c,.int .u8 d,.int .u8 a,.int .u8 b,.int .i32 m] w fun e w'=>e=.returned (.agg #[.string (opAt (c%53).toNat),.int .i64 (d%32),.int .i64 (a%32),.int .i64 (0),.int .i32 (m.tmod 2048)])∧Below w.heap.size w w':=by
 have k0:0≤c%53:=by omega
 have k1:c%53<53:=by omega
 generalize hk:c%53=k at *
 have HK:Hid (∀ w,Calls Tryz.prog 19 #[.string (opAt k.toNat)] w fun e w'=>e=.returned (.int .u8 73)∧w'=w.alloc (.cells #[.int .u8 73,.int .u32 o,.int .u32 g,.int .u32 f] 78)):=rKind _ 73 o g f hp
 obtain⟨c0,c1⟩:=hc
 obtain⟨d0,d1⟩:=hd
 obtain⟨a0,a1⟩:=ha
 obtain⟨b0,b1⟩:=hb
 obtain⟨m0,m1⟩:=hm
 clear hp
 generalize hs:opAt k.toNat=s at *
 have HS:Hid (opAt k.toNat=s):=hs
 clear hs
 go_enter Tryz.func18,Tryz.ntmps18
 go_wp2_with fail
 refine (rOps _).mono ?_
 rintro e w1 ⟨G,cap,rfl,hg0,hg1,hb1,hcells⟩
 have hcell:=hcells k.toNat (by omega)
 rw[HS.out] at hcell
 obtain⟨⟨t0,t1,t2,t3,t4⟩,fz,bW,sz⟩:=z5c hb1
 have HW:Hid (Below w.heap.size w w1):=bW
 clear hcells hb1 hg0 bW
 go_wp2_with (go_at_call 19;refine (HK _).mono ?_;rintro e w' ⟨rfl,rfl⟩)
 obtain⟨y0,y1,y2,y3,y4⟩:=z7w (v0:=.string s) (v1:=.int .i64 (d%32)) (v2:=.int .i64 (a%32)) (v3:=.int .i64 (0)) (v4:=.int .i32 (m.tmod 2048)) t0 t1 t2 t3 t4
 have HF5:=z4g (v0:=.string s) (v1:=.int .i64 (d%32)) (v2:=.int .i64 (a%32)) (v3:=.int .i64 (0)) (v4:=.int .i32 (m.tmod 2048)) HW.out
 have sY:=World.block_lt_of_cell? _ _ y0
 generalize ((((w1.setCell ⟨w.heap.size,0,none⟩ (.string s)).setCell ⟨w.heap.size,1,none⟩ (.int .i64 (d%32))).setCell ⟨w.heap.size,2,none⟩ (.int .i64 (a%32))).setCell ⟨w.heap.size,3,none⟩ (.int .i64 (0))).setCell ⟨w.heap.size,4,none⟩ (.int .i32 (m.tmod 2048))=Y at *
 simp only at sY
 have sY':w.heap.size<Y.heap.size+1:=by omega
 refine bodyPost_ret (v:=.agg #[.string s,.int .i64 (d%32),.int .i64 (a%32),.int .i64 (0),.int .i32 (m.tmod 2048)]) ?_ rfl ?_
 ·simp[results,Tryz.results18,go_sem,y0,y1,y2,y3,y4,sY,sY']
 ·exact⟨rfl,(HF5.alloc (Nat.le_of_lt sY) _).alloc (by simp;omega) _⟩
theorem ins_83 (c d a b m o g f:Int) (hc:0≤c∧c≤255) (hd:0≤d∧d≤255) (ha:0≤a∧a≤255) (hb:0≤b∧b≤255) (hm:-2147483648≤m∧m≤2147483647) (hp:z0q (opAt (c%53).toNat).toList=⟨83,o,g,f⟩) (w:World) :
  Calls Tryz.prog 18 #[.int .u8 c,.int .u8 d,.int .u8 a,.int .u8 b,.int .i32 m] w fun e w'=>e=.returned (.agg #[.string (opAt (c%53).toNat),.int .i64 (d%32),.int .i64 (a%32),.int .i64 (0),.int .i32 (m%32)])∧Below w.heap.size w w':=by
 have k0:0≤c%53:=by omega
 have k1:c%53<53:=by omega
 generalize hk:c%53=k at *
 have HK:Hid (∀ w,Calls Tryz.prog 19 #[.string (opAt k.toNat)] w fun e w'=>e=.returned (.int .u8 83)∧w'=w.alloc (.cells #[.int .u8 83,.int .u32 o,.int .u32 g,.int .u32 f] 78)):=rKind _ 83 o g f hp
 obtain⟨c0,c1⟩:=hc
 obtain⟨d0,d1⟩:=hd
 obtain⟨a0,a1⟩:=ha
 obtain⟨b0,b1⟩:=hb
 obtain⟨m0,m1⟩:=hm
 clear hp
 generalize hs:opAt k.toNat=s at *
 have HS:Hid (opAt k.toNat=s):=hs
 clear hs
 go_enter Tryz.func18,Tryz.ntmps18
 go_wp2_with fail
 refine (rOps _).mono ?_
 rintro e w1 ⟨G,cap,rfl,hg0,hg1,hb1,hcells⟩
 have hcell:=hcells k.toNat (by omega)
 rw[HS.out] at hcell
 obtain⟨⟨t0,t1,t2,t3,t4⟩,fz,bW,sz⟩:=z5c hb1
 have HW:Hid (Below w.heap.size w w1):=bW
 clear hcells hb1 hg0 bW
 go_wp2_with (go_at_call 19;refine (HK _).mono ?_;rintro e w' ⟨rfl,rfl⟩)
 obtain⟨y0,y1,y2,y3,y4⟩:=z7w (v0:=.string s) (v1:=.int .i64 (d%32)) (v2:=.int .i64 (a%32)) (v3:=.int .i64 (0)) (v4:=.int .i32 (m%32)) t0 t1 t2 t3 t4
 have HF5:=z4g (v0:=.string s) (v1:=.int .i64 (d%32)) (v2:=.int .i64 (a%32)) (v3:=.int .i64 (0)) (v4:=.int .i32 (m%32)) HW.out
 have sY:=World.block_lt_of_cell? _ _ y0
 generalize ((((w1.setCell ⟨w.heap.size,0,none⟩ (.string s)).setCell ⟨w.heap.size,1,none⟩ (.int .i64 (d%32))).setCell ⟨w.heap.size,2,none⟩ (.int .i64 (a%32))).setCell ⟨w.heap.size,3,none⟩ (.int .i64 (0))).setCell ⟨w.heap.size,4,none⟩ (.int .i32 (m%32))=Y at *
 simp only at sY
 have sY':w.heap.size<Y.heap.size+1:=by omega
 refine bodyPost_ret (v:=.agg #[.string s,.int .i64 (d%32),.int .i64 (a%32),.int .i64 (0),.int .i32 (m%32)]) ?_ rfl ?_
 ·simp[results,Tryz.results18,go_sem,y0,y1,y2,y3,y4,sY,sY']
 ·exact⟨rfl,(HF5.alloc (Nat.le_of_lt sY) _).alloc (by simp;omega) _⟩
theorem ins_115 (c d a b m o g f:Int) (hc:0≤c∧c≤255) (hd:0≤d∧d≤255) (ha:0≤a∧a≤255) (hb:0≤b∧b≤255) (hm:-2147483648≤m∧m≤2147483647) (hp:z0q (opAt (c%53).toNat).toList=⟨115,o,g,f⟩) (w:World) :
  Calls Tryz.prog 18 #[.int .u8 c,.int .u8 d,.int .u8 a,.int .u8 b,.int .i32 m] w fun e w'=>e=.returned (.agg #[.string (opAt (c%53).toNat),.int .i64 (0),.int .i64 (a%32),.int .i64 (b%32),.int .i32 (m.tmod 2048)])∧Below w.heap.size w w':=by
 have k0:0≤c%53:=by omega
 have k1:c%53<53:=by omega
 generalize hk:c%53=k at *
 have HK:Hid (∀ w,Calls Tryz.prog 19 #[.string (opAt k.toNat)] w fun e w'=>e=.returned (.int .u8 115)∧w'=w.alloc (.cells #[.int .u8 115,.int .u32 o,.int .u32 g,.int .u32 f] 78)):=rKind _ 115 o g f hp
 obtain⟨c0,c1⟩:=hc
 obtain⟨d0,d1⟩:=hd
 obtain⟨a0,a1⟩:=ha
 obtain⟨b0,b1⟩:=hb
 obtain⟨m0,m1⟩:=hm
 clear hp
 generalize hs:opAt k.toNat=s at *
 have HS:Hid (opAt k.toNat=s):=hs
 clear hs
 go_enter Tryz.func18,Tryz.ntmps18
 go_wp2_with fail
 refine (rOps _).mono ?_
 rintro e w1 ⟨G,cap,rfl,hg0,hg1,hb1,hcells⟩
 have hcell:=hcells k.toNat (by omega)
 rw[HS.out] at hcell
 obtain⟨⟨t0,t1,t2,t3,t4⟩,fz,bW,sz⟩:=z5c hb1
 have HW:Hid (Below w.heap.size w w1):=bW
 clear hcells hb1 hg0 bW
 go_wp2_with (go_at_call 19;refine (HK _).mono ?_;rintro e w' ⟨rfl,rfl⟩)
 obtain⟨y0,y1,y2,y3,y4⟩:=z7w (v0:=.string s) (v1:=.int .i64 (0)) (v2:=.int .i64 (a%32)) (v3:=.int .i64 (b%32)) (v4:=.int .i32 (m.tmod 2048)) t0 t1 t2 t3 t4
 have HF5:=z4g (v0:=.string s) (v1:=.int .i64 (0)) (v2:=.int .i64 (a%32)) (v3:=.int .i64 (b%32)) (v4:=.int .i32 (m.tmod 2048)) HW.out
 have sY:=World.block_lt_of_cell? _ _ y0
 generalize ((((w1.setCell ⟨w.heap.size,0,none⟩ (.string s)).setCell ⟨w.heap.size,1,none⟩ (.int .i64 (0))).setCell ⟨w.heap.size,2,none⟩ (.int .i64 (a%32))).setCell ⟨w.heap.size,3,none⟩ (.int .i64 (b%32))).setCell ⟨w.heap.size,4,none⟩ (.int .i32 (m.tmod 2048))=Y at *
 simp only at sY
 have sY':w.heap.size<Y.heap.size+1:=by omega
 refine bodyPost_ret (v:=.agg #[.string s,.int .i64 (0),.int .i64 (a%32),.int .i64 (b%32),.int .i32 (m.tmod 2048)]) ?_ rfl ?_
 ·simp[results,Tryz.results18,go_sem,y0,y1,y2,y3,y4,sY,sY']
 ·exact⟨rfl,(HF5.alloc (Nat.le_of_lt sY) _).alloc (by simp;omega) _⟩
theorem ins_66 (c d a b m o g f:Int) (hc:0≤c∧c≤255) (hd:0≤d∧d≤255) (ha:0≤a∧a≤255) (hb:0≤b∧b≤255) (hm:-2147483648≤m∧m≤2147483647) (hp:z0q (opAt (c%53).toNat).toList=⟨66,o,g,f⟩) (w:World) :
  Calls Tryz.prog 18 #[.int .u8 c,.int .u8 d,.int .u8 a,.int .u8 b,.int .i32 m] w fun e w'=>e=.returned (.agg #[.string (opAt (c%53).toNat),.int .i64 (0),.int .i64 (a%32),.int .i64 (b%32),.int .i32 (wrap32 (m.tmod 2048*2))])∧Below w.heap.size w w':=by
 have k0:0≤c%53:=by omega
 have k1:c%53<53:=by omega
 generalize hk:c%53=k at *
 have HK:Hid (∀ w,Calls Tryz.prog 19 #[.string (opAt k.toNat)] w fun e w'=>e=.returned (.int .u8 66)∧w'=w.alloc (.cells #[.int .u8 66,.int .u32 o,.int .u32 g,.int .u32 f] 78)):=rKind _ 66 o g f hp
 obtain⟨c0,c1⟩:=hc
 obtain⟨d0,d1⟩:=hd
 obtain⟨a0,a1⟩:=ha
 obtain⟨b0,b1⟩:=hb
 obtain⟨m0,m1⟩:=hm
 clear hp
 generalize hs:opAt k.toNat=s at *
 have HS:Hid (opAt k.toNat=s):=hs
 clear hs
 go_enter Tryz.func18,Tryz.ntmps18
 go_wp2_with fail
 refine (rOps _).mono ?_
 rintro e w1 ⟨G,cap,rfl,hg0,hg1,hb1,hcells⟩
 have hcell:=hcells k.toNat (by omega)
 rw[HS.out] at hcell
 obtain⟨⟨t0,t1,t2,t3,t4⟩,fz,bW,sz⟩:=z5c hb1
 have HW:Hid (Below w.heap.size w w1):=bW
 clear hcells hb1 hg0 bW
 go_wp2_with (go_at_call 19;refine (HK _).mono ?_;rintro e w' ⟨rfl,rfl⟩)
 obtain⟨y0,y1,y2,y3,y4⟩:=z7w (v0:=.string s) (v1:=.int .i64 (0)) (v2:=.int .i64 (a%32)) (v3:=.int .i64 (b%32)) (v4:=.int .i32 (wrap32 (m.tmod 2048*2))) t0 t1 t2 t3 t4
 have HF5:=z4g (v0:=.string s) (v1:=.int .i64 (0)) (v2:=.int .i64 (a%32)) (v3:=.int .i64 (b%32)) (v4:=.int .i32 (wrap32 (m.tmod 2048*2))) HW.out
 have sY:=World.block_lt_of_cell? _ _ y0
 generalize ((((w1.setCell ⟨w.heap.size,0,none⟩ (.string s)).setCell ⟨w.heap.size,1,none⟩ (.int .i64 (0))).setCell ⟨w.heap.size,2,none⟩ (.int .i64 (a%32))).setCell ⟨w.heap.size,3,none⟩ (.int .i64 (b%32))).setCell ⟨w.heap.size,4,none⟩ (.int .i32 (wrap32 (m.tmod 2048*2)))=Y at *
 simp only at sY
 have sY':w.heap.size<Y.heap.size+1:=by omega
 refine bodyPost_ret (v:=.agg #[.string s,.int .i64 (0),.int .i64 (a%32),.int .i64 (b%32),.int .i32 (wrap32 (m.tmod 2048*2))]) ?_ rfl ?_
 ·simp[results,Tryz.results18,go_sem,y0,y1,y2,y3,y4,sY,sY']
 ·exact⟨rfl,(HF5.alloc (Nat.le_of_lt sY) _).alloc (by simp;omega) _⟩
theorem ins_85 (c d a b m o g f:Int) (hc:0≤c∧c≤255) (hd:0≤d∧d≤255) (ha:0≤a∧a≤255) (hb:0≤b∧b≤255) (hm:-2147483648≤m∧m≤2147483647) (hp:z0q (opAt (c%53).toNat).toList=⟨85,o,g,f⟩) (w:World) :
  Calls Tryz.prog 18 #[.int .u8 c,.int .u8 d,.int .u8 a,.int .u8 b,.int .i32 m] w fun e w'=>e=.returned (.agg #[.string (opAt (c%53).toNat),.int .i64 (d%32),.int .i64 (0),.int .i64 (0),.int .i32 (m%4294967296/4096)])∧Below w.heap.size w w':=by
 have k0:0≤c%53:=by omega
 have k1:c%53<53:=by omega
 generalize hk:c%53=k at *
 have HK:Hid (∀ w,Calls Tryz.prog 19 #[.string (opAt k.toNat)] w fun e w'=>e=.returned (.int .u8 85)∧w'=w.alloc (.cells #[.int .u8 85,.int .u32 o,.int .u32 g,.int .u32 f] 78)):=rKind _ 85 o g f hp
 obtain⟨c0,c1⟩:=hc
 obtain⟨d0,d1⟩:=hd
 obtain⟨a0,a1⟩:=ha
 obtain⟨b0,b1⟩:=hb
 obtain⟨m0,m1⟩:=hm
 clear hp
 generalize hs:opAt k.toNat=s at *
 have HS:Hid (opAt k.toNat=s):=hs
 clear hs
 go_enter Tryz.func18,Tryz.ntmps18
 go_wp2_with fail
 refine (rOps _).mono ?_
 rintro e w1 ⟨G,cap,rfl,hg0,hg1,hb1,hcells⟩
 have hcell:=hcells k.toNat (by omega)
 rw[HS.out] at hcell
 obtain⟨⟨t0,t1,t2,t3,t4⟩,fz,bW,sz⟩:=z5c hb1
 have HW:Hid (Below w.heap.size w w1):=bW
 clear hcells hb1 hg0 bW
 go_wp2_with (go_at_call 19;refine (HK _).mono ?_;rintro e w' ⟨rfl,rfl⟩)
 obtain⟨y0,y1,y2,y3,y4⟩:=z7w (v0:=.string s) (v1:=.int .i64 (d%32)) (v2:=.int .i64 (0)) (v3:=.int .i64 (0)) (v4:=.int .i32 (m%4294967296/4096)) t0 t1 t2 t3 t4
 have HF5:=z4g (v0:=.string s) (v1:=.int .i64 (d%32)) (v2:=.int .i64 (0)) (v3:=.int .i64 (0)) (v4:=.int .i32 (m%4294967296/4096)) HW.out
 have sY:=World.block_lt_of_cell? _ _ y0
 generalize ((((w1.setCell ⟨w.heap.size,0,none⟩ (.string s)).setCell ⟨w.heap.size,1,none⟩ (.int .i64 (d%32))).setCell ⟨w.heap.size,2,none⟩ (.int .i64 (0))).setCell ⟨w.heap.size,3,none⟩ (.int .i64 (0))).setCell ⟨w.heap.size,4,none⟩ (.int .i32 (m%4294967296/4096))=Y at *
 simp only at sY
 have sY':w.heap.size<Y.heap.size+1:=by omega
 refine bodyPost_ret (v:=.agg #[.string s,.int .i64 (d%32),.int .i64 (0),.int .i64 (0),.int .i32 (m%4294967296/4096)]) ?_ rfl ?_
 ·simp[results,Tryz.results18,go_sem,y0,y1,y2,y3,y4,sY,sY']
 ·exact⟨rfl,(HF5.alloc (Nat.le_of_lt sY) _).alloc (by simp;omega) _⟩
theorem ins_74 (c d a b m o g f:Int) (hc:0≤c∧c≤255) (hd:0≤d∧d≤255) (ha:0≤a∧a≤255) (hb:0≤b∧b≤255) (hm:-2147483648≤m∧m≤2147483647) (hp:z0q (opAt (c%53).toNat).toList=⟨74,o,g,f⟩) (w:World) :
  Calls Tryz.prog 18 #[.int .u8 c,.int .u8 d,.int .u8 a,.int .u8 b,.int .i32 m] w fun e w'=>e=.returned (.agg #[.string (opAt (c%53).toNat),.int .i64 (d%32),.int .i64 (0),.int .i64 (0),.int .i32 (wrap32 (m.tmod 524288*2))])∧Below w.heap.size w w':=by
 have k0:0≤c%53:=by omega
 have k1:c%53<53:=by omega
 generalize hk:c%53=k at *
 have HK:Hid (∀ w,Calls Tryz.prog 19 #[.string (opAt k.toNat)] w fun e w'=>e=.returned (.int .u8 74)∧w'=w.alloc (.cells #[.int .u8 74,.int .u32 o,.int .u32 g,.int .u32 f] 78)):=rKind _ 74 o g f hp
 obtain⟨c0,c1⟩:=hc
 obtain⟨d0,d1⟩:=hd
 obtain⟨a0,a1⟩:=ha
 obtain⟨b0,b1⟩:=hb
 obtain⟨m0,m1⟩:=hm
 clear hp
 generalize hs:opAt k.toNat=s at *
 have HS:Hid (opAt k.toNat=s):=hs
 clear hs
 go_enter Tryz.func18,Tryz.ntmps18
 go_wp2_with fail
 refine (rOps _).mono ?_
 rintro e w1 ⟨G,cap,rfl,hg0,hg1,hb1,hcells⟩
 have hcell:=hcells k.toNat (by omega)
 rw[HS.out] at hcell
 obtain⟨⟨t0,t1,t2,t3,t4⟩,fz,bW,sz⟩:=z5c hb1
 have HW:Hid (Below w.heap.size w w1):=bW
 clear hcells hb1 hg0 bW
 go_wp2_with (go_at_call 19;refine (HK _).mono ?_;rintro e w' ⟨rfl,rfl⟩)
 obtain⟨y0,y1,y2,y3,y4⟩:=z7w (v0:=.string s) (v1:=.int .i64 (d%32)) (v2:=.int .i64 (0)) (v3:=.int .i64 (0)) (v4:=.int .i32 (wrap32 (m.tmod 524288*2))) t0 t1 t2 t3 t4
 have HF5:=z4g (v0:=.string s) (v1:=.int .i64 (d%32)) (v2:=.int .i64 (0)) (v3:=.int .i64 (0)) (v4:=.int .i32 (wrap32 (m.tmod 524288*2))) HW.out
 have sY:=World.block_lt_of_cell? _ _ y0
 generalize ((((w1.setCell ⟨w.heap.size,0,none⟩ (.string s)).setCell ⟨w.heap.size,1,none⟩ (.int .i64 (d%32))).setCell ⟨w.heap.size,2,none⟩ (.int .i64 (0))).setCell ⟨w.heap.size,3,none⟩ (.int .i64 (0))).setCell ⟨w.heap.size,4,none⟩ (.int .i32 (wrap32 (m.tmod 524288*2)))=Y at *
 simp only at sY
 have sY':w.heap.size<Y.heap.size+1:=by omega
 refine bodyPost_ret (v:=.agg #[.string s,.int .i64 (d%32),.int .i64 (0),.int .i64 (0),.int .i32 (wrap32 (m.tmod 524288*2))]) ?_ rfl ?_
 ·simp[results,Tryz.results18,go_sem,y0,y1,y2,y3,y4,sY,sY']
 ·exact⟨rfl,(HF5.alloc (Nat.le_of_lt sY) _).alloc (by simp;omega) _⟩
theorem ins_67 (c d a b m o g f:Int) (hc:0≤c∧c≤255) (hd:0≤d∧d≤255) (ha:0≤a∧a≤255) (hb:0≤b∧b≤255) (hm:-2147483648≤m∧m≤2147483647) (hp:z0q (opAt (c%53).toNat).toList=⟨67,o,g,f⟩) (w:World) :
  Calls Tryz.prog 18 #[.int .u8 c,.int .u8 d,.int .u8 a,.int .u8 b,.int .i32 m] w fun e w'=>e=.returned (.agg #[.string (opAt (c%53).toNat),.int .i64 (d%32),.int .i64 (a%32),.int .i64 (0),.int .i32 (m%4096)])∧Below w.heap.size w w':=by
 have k0:0≤c%53:=by omega
 have k1:c%53<53:=by omega
 generalize hk:c%53=k at *
 have HK:Hid (∀ w,Calls Tryz.prog 19 #[.string (opAt k.toNat)] w fun e w'=>e=.returned (.int .u8 67)∧w'=w.alloc (.cells #[.int .u8 67,.int .u32 o,.int .u32 g,.int .u32 f] 78)):=rKind _ 67 o g f hp
 obtain⟨c0,c1⟩:=hc
 obtain⟨d0,d1⟩:=hd
 obtain⟨a0,a1⟩:=ha
 obtain⟨b0,b1⟩:=hb
 obtain⟨m0,m1⟩:=hm
 clear hp
 generalize hs:opAt k.toNat=s at *
 have HS:Hid (opAt k.toNat=s):=hs
 clear hs
 go_enter Tryz.func18,Tryz.ntmps18
 go_wp2_with fail
 refine (rOps _).mono ?_
 rintro e w1 ⟨G,cap,rfl,hg0,hg1,hb1,hcells⟩
 have hcell:=hcells k.toNat (by omega)
 rw[HS.out] at hcell
 obtain⟨⟨t0,t1,t2,t3,t4⟩,fz,bW,sz⟩:=z5c hb1
 have HW:Hid (Below w.heap.size w w1):=bW
 clear hcells hb1 hg0 bW
 go_wp2_with (go_at_call 19;refine (HK _).mono ?_;rintro e w' ⟨rfl,rfl⟩)
 obtain⟨y0,y1,y2,y3,y4⟩:=z7w (v0:=.string s) (v1:=.int .i64 (d%32)) (v2:=.int .i64 (a%32)) (v3:=.int .i64 (0)) (v4:=.int .i32 (m%4096)) t0 t1 t2 t3 t4
 have HF5:=z4g (v0:=.string s) (v1:=.int .i64 (d%32)) (v2:=.int .i64 (a%32)) (v3:=.int .i64 (0)) (v4:=.int .i32 (m%4096)) HW.out
 have sY:=World.block_lt_of_cell? _ _ y0
 generalize ((((w1.setCell ⟨w.heap.size,0,none⟩ (.string s)).setCell ⟨w.heap.size,1,none⟩ (.int .i64 (d%32))).setCell ⟨w.heap.size,2,none⟩ (.int .i64 (a%32))).setCell ⟨w.heap.size,3,none⟩ (.int .i64 (0))).setCell ⟨w.heap.size,4,none⟩ (.int .i32 (m%4096))=Y at *
 simp only at sY
 have sY':w.heap.size<Y.heap.size+1:=by omega
 refine bodyPost_ret (v:=.agg #[.string s,.int .i64 (d%32),.int .i64 (a%32),.int .i64 (0),.int .i32 (m%4096)]) ?_ rfl ?_
 ·simp[results,Tryz.results18,go_sem,y0,y1,y2,y3,y4,sY,sY']
 ·exact⟨rfl,(HF5.alloc (Nat.le_of_lt sY) _).alloc (by simp;omega) _⟩
theorem ins_87 (c d a b m o g f:Int) (hc:0≤c∧c≤255) (hd:0≤d∧d≤255) (ha:0≤a∧a≤255) (hb:0≤b∧b≤255) (hm:-2147483648≤m∧m≤2147483647) (hp:z0q (opAt (c%53).toNat).toList=⟨87,o,g,f⟩) (w:World) :
  Calls Tryz.prog 18 #[.int .u8 c,.int .u8 d,.int .u8 a,.int .u8 b,.int .i32 m] w fun e w'=>e=.returned (.agg #[.string (opAt (c%53).toNat),.int .i64 (0),.int .i64 (0),.int .i64 (0),.int .i32 (0)])∧Below w.heap.size w w':=by
 have k0:0≤c%53:=by omega
 have k1:c%53<53:=by omega
 generalize hk:c%53=k at *
 have HK:Hid (∀ w,Calls Tryz.prog 19 #[.string (opAt k.toNat)] w fun e w'=>e=.returned (.int .u8 87)∧w'=w.alloc (.cells #[.int .u8 87,.int .u32 o,.int .u32 g,.int .u32 f] 78)):=rKind _ 87 o g f hp
 obtain⟨c0,c1⟩:=hc
 obtain⟨d0,d1⟩:=hd
 obtain⟨a0,a1⟩:=ha
 obtain⟨b0,b1⟩:=hb
 obtain⟨m0,m1⟩:=hm
 clear hp
 generalize hs:opAt k.toNat=s at *
 have HS:Hid (opAt k.toNat=s):=hs
 clear hs
 go_enter Tryz.func18,Tryz.ntmps18
 go_wp2_with fail
 refine (rOps _).mono ?_
 rintro e w1 ⟨G,cap,rfl,hg0,hg1,hb1,hcells⟩
 have hcell:=hcells k.toNat (by omega)
 rw[HS.out] at hcell
 obtain⟨⟨t0,t1,t2,t3,t4⟩,fz,bW,sz⟩:=z5c hb1
 have HW:Hid (Below w.heap.size w w1):=bW
 clear hcells hb1 hg0 bW
 go_wp2_with (go_at_call 19;refine (HK _).mono ?_;rintro e w' ⟨rfl,rfl⟩)
 obtain⟨y0,y1,y2,y3,y4⟩:=z7w (v0:=.string s) (v1:=.int .i64 (0)) (v2:=.int .i64 (0)) (v3:=.int .i64 (0)) (v4:=.int .i32 (0)) t0 t1 t2 t3 t4
 have HF5:=z4g (v0:=.string s) (v1:=.int .i64 (0)) (v2:=.int .i64 (0)) (v3:=.int .i64 (0)) (v4:=.int .i32 (0)) HW.out
 have sY:=World.block_lt_of_cell? _ _ y0
 generalize ((((w1.setCell ⟨w.heap.size,0,none⟩ (.string s)).setCell ⟨w.heap.size,1,none⟩ (.int .i64 (0))).setCell ⟨w.heap.size,2,none⟩ (.int .i64 (0))).setCell ⟨w.heap.size,3,none⟩ (.int .i64 (0))).setCell ⟨w.heap.size,4,none⟩ (.int .i32 (0))=Y at *
 simp only at sY
 have sY':w.heap.size<Y.heap.size+1:=by omega
 refine bodyPost_ret (v:=.agg #[.string s,.int .i64 (0),.int .i64 (0),.int .i64 (0),.int .i32 (0)]) ?_ rfl ?_
 ·simp[results,Tryz.results18,go_sem,y0,y1,y2,y3,y4,sY,sY']
 ·exact⟨rfl,(HF5.alloc (Nat.le_of_lt sY) _).alloc (by simp;omega) _⟩
def inqD (k d:Int):Int:=if k=115∨k=66∨k=87 then 0 else d%32
def inqA (k a:Int):Int:=if k=85∨k=74∨k=87 then 0 else a%32
def inqB (k b:Int):Int:=if k=82∨k=115∨k=66 then b%32 else 0
def inqM (k m:Int):Int:=
 if k=73∨k=115 then m.tmod 2048 else if k=83 then m%32 else if k=66 then wrap32 (m.tmod 2048*2)
 else if k=85 then m%4294967296/4096 else if k=74 then wrap32 (m.tmod 524288*2) else if k=67 then m%4096 else 0
def insN (c d a b m:Int):MIns:=
 let s:=(opAt (c%53).toNat).toList
 ⟨s,inqD (z0q s).k d,inqA (z0q s).k a,inqB (z0q s).k b,inqM (z0q s).k m⟩
theorem rIns (c d a b m:Int) (hc:0≤c∧c≤255) (hd:0≤d∧d≤255) (ha:0≤a∧a≤255) (hb:0≤b∧b≤255) (hm:-2147483648≤m∧m≤2147483647) (w:World) :
  Calls Tryz.prog 18 #[.int .u8 c,.int .u8 d,.int .u8 a,.int .u8 b,.int .i32 m] w fun e w'=>e=.returned (.agg #[.string (opAt (c%53).toNat),.int .i64 (insN c d a b m).d,.int .i64 (insN c d a b m).a,.int .i64 (insN c d a b m).b,.int .i32 (insN c d a b m).m])∧Below w.heap.size w w':=by
 have h:=kinds (opAt (c%53).toNat).toList
 have hn:=kind_ne (c%53).toNat (by omega)
 unfold insN
 simp only
 cases hp:z0q (opAt (c%53).toNat).toList with
 | mk k o g f=>
  rw[hp] at h hn
  simp only at h hn
  rcases h with rfl | rfl | rfl | rfl | rfl | rfl | rfl | rfl | rfl | rfl
  ·exact ins_82 c d a b m o g f hc hd ha hb hm hp w
  ·exact ins_73 c d a b m o g f hc hd ha hb hm hp w
  ·exact ins_83 c d a b m o g f hc hd ha hb hm hp w
  ·exact ins_115 c d a b m o g f hc hd ha hb hm hp w
  ·exact ins_66 c d a b m o g f hc hd ha hb hm hp w
  ·exact ins_85 c d a b m o g f hc hd ha hb hm hp w
  ·exact ins_74 c d a b m o g f hc hd ha hb hm hp w
  ·exact ins_67 c d a b m o g f hc hd ha hb hm hp w
  ·exact ins_87 c d a b m o g f hc hd ha hb hm hp w
  ·exact absurd rfl hn
end Go.Proofs.YtbmnmbkgdalkcaaGreatDoor
