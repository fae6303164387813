/-
  Contracts of functions that the statement reaches, and what they are made of, callees first.
-/
import Derived.Test.YtbmnmbkgdalkcaaGreatDoorPzf
set_option maxRecDepth 100000
set_option maxHeartbeats 8000000
namespace Go.Proofs.YtbmnmbkgdalkcaaGreatDoor
open Go.RowKit
theorem mdo_s_false {w : World} {c bm cap B : Nat} {s : CS} {l : List Int} {es : List Ev} (h : z1q w c bm cap B s l es) (hF : Fine s es) (hu : s.u = false) (hp : s.f 32 % 4 = 0) (ha : askV l.length (s.f 32) 4 = 0)
    (nm:List UInt8) (d a b:Nat) (m x:Int) (hx:z1l l (s.f 32) 4 false=x) (hg:getV (z1l l (s.f 32) 4 false)=some ⟨nm,d,a,b,m⟩) (hld:d<32) (hla:a<32) (hlb:b<32) (hn:nm=[115,98]∨nm=[115,104]∨nm=[115,119]) :
    Calls Tryz.prog 30 #[.pointer (some ⟨c,0,none⟩)] w fun e w'=>e=.returned (.tuple #[])∧Went w w' c bm cap B s (insC s l es ⟨nm,d,a,b,m⟩ x):=by
  have hu':=hu
  have HNM:Hid _:=hn
  clear hn
  have HM:Hid _:=h
  have HF:Hid _:=hF
  have HT:Hid (0≤s.t):=hF.t0
  have HT':Hid (s.t≤1152921504606846976):=by have:=hF.t1;show _≤_;omega
  have c33:=h.core.cell 33 (by decide)
  have e33:z0l s 33=.int .u32 (s.f 32):=rfl
  rw[e33] at c33
  have c34:=h.core.cell 34 (by decide)
  have e34:z0l s 34=.bool false:=by rw[← hu];rfl
  rw[e34] at c34
  have c0:=h.core.cell 0 (by decide)
  have e0:z0l s 0=.slice (some ⟨bm,0,none⟩) l.length cap:=h.mem.m
  rw[e0] at c0
  have t4:(s.f 32).tmod 4=s.f 32%4:=Int.tmod_eq_emod_of_nonneg (hF.f 32).1
  have p4:(s.f 32%4 != 0)=false:=by simpa using hp
  have CL:Hid _:=fun W hm hl=>z6p bm l.length cap l (s.f 32) 4 false h.mem.len (hF.f 32) h.mem.u W hm hl
  rw[ha,z2p ha] at CL
  have CG:Hid _:=z8g (z2l l (s.f 32) 4) hg
  have CK:Hid _:=z3j nm
  generalize (z0q nm).k=kk at *
  have HX:Hid (z1l l (s.f 32) 4 false=x):=hx
  rw[hx] at CL CG
  generalize hpc:s.f 32=pc at *
  have HPC:Hid (s.f 32=pc):=hpc
  have ha0:(0:Int)≤(a:Int):=by omega
  have ha1:(a:Int)<32:=by omega
  have hb0:(0:Int)≤(b:Int):=by omega
  have hb1:(b:Int)<32:=by omega
  have hd0:(0:Int)≤(d:Int):=by omega
  have hd1:(d:Int)<32:=by omega
  clear h hF hp ha hg hx hpc hu e33 e34 e0
  go_enter Tryz.func30,Tryz.ntmps30
  go_wp2_with fail
  refine Calls.mono (CL.out w HM.out.mem.mem HM.out.mem.lt) ?_
  rintro e w2 ⟨rfl,b2⟩
  have H2:Hid (z0i w2 c s):=HM.out.core.below b2
  have G2 : Hid (Chg (· = c) w w2) := Chg.of b2
  clear CL b2 c0
  have q2:c<w2.heap.size:=H2.out.lt
  have H2b:Hid (z0i (w2.alloc (.cells #[.int .u32 x,.int .i64 0] 81)) c s):=H2.out.below ((Below.refl _ _).alloc (Nat.le_refl _) _)
  have G2b : Hid (Chg (· = c) w (w2.alloc (.cells #[.int .u32 x, .int .i64 0] 81))) := G2.out.alloc _
  have I2:=z0g w2 (.cells #[.int .u32 x,.int .i64 0] 81)
  obtain⟨ic,_,il⟩:=z0a I2
  have i0:=ic 0 (.int .u32 x) rfl
  have i1:=ic 1 (.int .i64 0) rfl
  clear H2 G2 ic
  go_wp2_with fail
  generalize w2.alloc (.cells #[.int .u32 x,.int .i64 0] 81)=V2 at *
  have nbg:w2.heap.size≠c:=by omega
  generalize w2.heap.size=bg at *
  refine Calls.mono (CG.out _) ?_
  rintro e w3 ⟨rfl,b3⟩
  have H3:Hid (z0i w3 c s):=H2b.out.below b3
  have G3 : Hid (Chg (· = c) w w3) := G2b.out.step b3
  have I3:=z0f I2 b3
  have q3:c<w3.heap.size:=H3.out.lt
  have q3':bg<w3.heap.size:=(Array.getElem?_eq_some_iff.1 I3).1
  clear b3 H2b G2b I2 i0 i1 il CG q2
  go_wp2_with fail
  have TT:Hid (Told w ((w3.alloc (.cells #[.string ⟨nm.toArray⟩,.int .i64 d,.int .i64 a,.int .i64 b,.int .i32 m,.bool true] 104)).alloc (.cells #[.string ⟨nm.toArray⟩,.int .i64 d,.int .i64 a,.int .i64 b,.int .i32 m] 52)) c s (w3.heap.size+1) bg nm d a b m x):=by
    refine⟨H3.out.below box2,(G3.out.alloc _).alloc _,?_,z0f I3 box2,by omega,nbg⟩
    have:=z0g (w3.alloc (.cells #[.string ⟨nm.toArray⟩,.int .i64 d,.int .i64 a,.int .i64 b,.int .i32 m,.bool true] 104)) (.cells #[.string ⟨nm.toArray⟩,.int .i64 d,.int .i64 a,.int .i64 b,.int .i32 m] 52)
    rwa [World.size_alloc] at this
  have TO:Hid (((w3.alloc (.cells #[.string ⟨nm.toArray⟩,.int .i64 d,.int .i64 a,.int .i64 b,.int .i32 m,.bool true] 104)).alloc (.cells #[.string ⟨nm.toArray⟩,.int .i64 d,.int .i64 a,.int .i64 b,.int .i32 m] 52)).heap[w3.heap.size]?=some (.cells #[.string ⟨nm.toArray⟩,.int .i64 d,.int .i64 a,.int .i64 b,.int .i32 m,.bool true] 104)):=z0m ((Below.refl _ _).alloc (Nat.le_refl _) _)
  clear H3 G3 I3 nbg
  generalize (w3.alloc (.cells #[.string ⟨nm.toArray⟩,.int .i64 d,.int .i64 a,.int .i64 b,.int .i32 m,.bool true] 104)).alloc (.cells #[.string ⟨nm.toArray⟩,.int .i64 d,.int .i64 a,.int .i64 b,.int .i32 m] 52)=V3 at *
  generalize w3.heap.size=bt at *
  refine Calls.mono (CK.out _) ?_
  rintro e w4 ⟨rfl,b4⟩
  have T4:Hid _:=TT.out.below b4
  have t5:=(z0a (z0f TO.out b4)).1 5 (.bool true) rfl
  have i0:=(z0a T4.out.ins).1 0 (.string ⟨nm.toArray⟩) rfl
  have i2:=(z0a T4.out.ins).1 2 (.int .i64 a) rfl
  have i3:=(z0a T4.out.ins).1 3 (.int .i64 b) rfl
  have i4:=(z0a T4.out.ins).1 4 (.int .i32 m) rfl
  have xa:=T4.out.core.x a hla
  have xb:=T4.out.core.x b hlb
  have c34:=T4.out.core.cell 34 (by decide)
  have e34:z0l s 34=.bool false:=by show Value.bool s.u=_;rw[hu']
  rw[e34] at c34
  clear b4 TT TO CK e34
  go_wp2_with fail
  --DBG
  go_quiet (fail)
  have T5:Hid _:=T4.out.below (z0u w4.heap.size w4 nq)
  have j0:=(z0a T5.out.ins).1 0 (.string ⟨nm.toArray⟩) rfl
  have j1:=(z0a T5.out.ins).1 1 (.int .i64 d) rfl
  have cr:=T5.out.core.x d hld
  have fr:=T5.out.core.free (1+d)
  clear T4 t5 i0 i2 i3 i4 xa xb c34 c33
  generalize w4.drewN nq=W5 at *
  generalize bt+1=bi at *
  have HMU0:U32 (m%4294967296):=⟨by omega,by omega⟩
  generalize hmu:m%4294967296=mu at *
  have HMU:Hid (m%4294967296=mu):=hmu
  have HMV:Hid (U32 mu):=HMU0
  clear hmu HMU0
  have hn:=HNM.out
  clear HNM
  rcases hn with rfl | rfl | rfl
  · have HQ:Hid (U32 ((s.f a+mu)%4294967296)):=⟨by omega,by omega⟩
    clear cr fr j1
    go_wp2_with fail
    refine (dstore (HM.out.on T5.out.core T5.out.chg) HF.out _ 1 _ HQ.out (by decide) (HF.out.f b)).mono ?_
    rintro e w7 ⟨rfl,h7⟩
    have H7:Hid _:=h7
    clear h7
    go_wp2
    go_end0
    refine⟨rfl,?_⟩
    rw[insC_sb,HMU.out]
    exact z6i T5.out.chg H7.out
  · have HQ:Hid (U32 ((s.f a+mu)%4294967296)):=⟨by omega,by omega⟩
    clear cr fr j1
    go_wp2_with fail
    refine (dstore (HM.out.on T5.out.core T5.out.chg) HF.out _ 2 _ HQ.out (by decide) (HF.out.f b)).mono ?_
    rintro e w7 ⟨rfl,h7⟩
    have H7:Hid _:=h7
    clear h7
    go_wp2
    go_end0
    refine⟨rfl,?_⟩
    rw[insC_sh,HMU.out]
    exact z6i T5.out.chg H7.out
  · have HQ:Hid (U32 ((s.f a+mu)%4294967296)):=⟨by omega,by omega⟩
    clear cr fr j1
    go_wp2_with fail
    refine (dstore (HM.out.on T5.out.core T5.out.chg) HF.out _ 4 _ HQ.out (by decide) (HF.out.f b)).mono ?_
    rintro e w7 ⟨rfl,h7⟩
    have H7:Hid _:=h7
    clear h7
    go_wp2
    go_end0
    refine⟨rfl,?_⟩
    rw[insC_sw,HMU.out]
    exact z6i T5.out.chg H7.out
theorem mdo_s_true {w : World} {c bm cap B : Nat} {s : CS} {l : List Int} {es : List Ev} (h : z1q w c bm cap B s l es) (hF : Fine s es) (hu : s.u = true) (hp : s.f 32 % 4 = 0) (ha : askV l.length (s.f 32) 4 = 0)
    (nm:List UInt8) (d a b:Nat) (m x:Int) (hx:z1l l (s.f 32) 4 false=x) (hg:getV (z1l l (s.f 32) 4 false)=some ⟨nm,d,a,b,m⟩) (hld:d<32) (hla:a<32) (hlb:b<32) (hal:z2m (ofV (gw s.f)) (s.f 32) 4 2=true) (hk67:¬(z0q nm).k=67) (hnm:¬nm=[109,114,101,116]) (hnw:¬nm=[119,102,105]) (hn:nm=[115,98]∨nm=[115,104]∨nm=[115,119]) :
    Calls Tryz.prog 30 #[.pointer (some ⟨c,0,none⟩)] w fun e w'=>e=.returned (.tuple #[])∧Went w w' c bm cap B s (insC s l es ⟨nm,d,a,b,m⟩ x):=by
  have hu':=hu
  have HNM:Hid _:=hn
  clear hn
  have HM:Hid _:=h
  have HF:Hid _:=hF
  have HT:Hid (0≤s.t):=hF.t0
  have HT':Hid (s.t≤1152921504606846976):=by have:=hF.t1;show _≤_;omega
  have c33:=h.core.cell 33 (by decide)
  have e33:z0l s 33=.int .u32 (s.f 32):=rfl
  rw[e33] at c33
  have c34:=h.core.cell 34 (by decide)
  have e34:z0l s 34=.bool true:=by rw[← hu];rfl
  rw[e34] at c34
  have c0:=h.core.cell 0 (by decide)
  have e0:z0l s 0=.slice (some ⟨bm,0,none⟩) l.length cap:=h.mem.m
  rw[e0] at c0
  have t4:(s.f 32).tmod 4=s.f 32%4:=Int.tmod_eq_emod_of_nonneg (hF.f 32).1
  have p4:(s.f 32%4 != 0)=false:=by simpa using hp
  have CL:Hid _:=fun W hm hl=>z6p bm l.length cap l (s.f 32) 4 false h.mem.len (hF.f 32) h.mem.u W hm hl
  rw[ha,z2p ha] at CL
  have CG:Hid _:=z8g (z2l l (s.f 32) 4) hg
  have CK:Hid _:=z3j nm
  have HG:Hid (∀ i,U32 (gw s.f i)):=fun i=>HF.out.f _
  have HP:Hid (U32 (s.f 32)):=hF.f 32
  have HAL:Hid _:=hal
  have k67:((z0q nm).k==67)=false:=by simpa using hk67
  have RG:Hid _:=z1x h.core
  have z1:(nm==[109,114,101,116])=false:=by rw[beq_eq_false_iff_ne];exact hnm
  have z2:(nm==[119,102,105])=false:=by rw[beq_eq_false_iff_ne];exact hnw
  have z3:((⟨nm.toArray⟩:ByteArray).toList==[109,114,101,116])=false:=by rw[ByteArray.toList_eq];exact z1
  have z4:((⟨nm.toArray⟩:ByteArray).toList==[119,102,105])=false:=by rw[ByteArray.toList_eq];exact z2
  clear hal hk67 hnm hnw
  generalize (z0q nm).k=kk at *
  have HX:Hid (z1l l (s.f 32) 4 false=x):=hx
  rw[hx] at CL CG
  generalize hpc:s.f 32=pc at *
  have HPC:Hid (s.f 32=pc):=hpc
  have ha0:(0:Int)≤(a:Int):=by omega
  have ha1:(a:Int)<32:=by omega
  have hb0:(0:Int)≤(b:Int):=by omega
  have hb1:(b:Int)<32:=by omega
  have hd0:(0:Int)≤(d:Int):=by omega
  have hd1:(d:Int)<32:=by omega
  clear h hF hp ha hg hx hpc hu e33 e34 e0
  go_enter Tryz.func30,Tryz.ntmps30
  go_wp2_with (first | (refine z0w (by rfl) 30 (.tmp 30) rfl c 42 rfl (z2n (gw s.f)) _ RG.out z7e rfl (by rw[z1r];exact z4r) ?_))
  refine (rOf _ HG.out _).mono ?_
  rintro e v4 ⟨g,cg,rfl,-,-,hcg,hreg,b4⟩
  have B4:Hid _:=b4
  have RR:Hid _:=hreg
  clear hreg b4 hcg RG
  go_wp2_with fail
  refine (z6a RR.out (z8q HG.out) 8 cg rfl (by decide) pc 4 2 HP.out ⟨by decide,by decide⟩).mono ?_
  rintro e v5 ⟨rfl,b5⟩
  rw[HAL.out]
  have B5:Hid (Below w.heap.size w v5):=z0e B4.out b5
  clear b5 B4 RR HAL
  have M5:Hid (z0i v5 c s):=HM.out.core.below B5.out
  have N5:Hid _:=HM.out.mem.on (Chg.of B5.out) rfl
  have c0:=M5.out.cell 0 (by decide)
  have e0:z0l s 0=.slice (some ⟨bm,0,none⟩) l.length cap:=HM.out.mem.m
  rw[e0] at c0
  clear c33 c34 e0
  go_wp2_with fail
  refine Calls.mono (CL.out v5 N5.out.mem N5.out.lt) ?_
  rintro e w2 ⟨rfl,b2⟩
  have H2:Hid (z0i w2 c s):=M5.out.below b2
  have G2 : Hid (Chg (· = c) w w2) := (Chg.of B5.out).step b2
  clear M5 N5 B5
  clear CL b2 c0
  have q2:c<w2.heap.size:=H2.out.lt
  have H2b:Hid (z0i (w2.alloc (.cells #[.int .u32 x,.int .i64 0] 81)) c s):=H2.out.below ((Below.refl _ _).alloc (Nat.le_refl _) _)
  have G2b : Hid (Chg (· = c) w (w2.alloc (.cells #[.int .u32 x, .int .i64 0] 81))) := G2.out.alloc _
  have I2:=z0g w2 (.cells #[.int .u32 x,.int .i64 0] 81)
  obtain⟨ic,_,il⟩:=z0a I2
  have i0:=ic 0 (.int .u32 x) rfl
  have i1:=ic 1 (.int .i64 0) rfl
  clear H2 G2 ic
  go_wp2_with fail
  generalize w2.alloc (.cells #[.int .u32 x,.int .i64 0] 81)=V2 at *
  have nbg:w2.heap.size≠c:=by omega
  generalize w2.heap.size=bg at *
  refine Calls.mono (CG.out _) ?_
  rintro e w3 ⟨rfl,b3⟩
  have H3:Hid (z0i w3 c s):=H2b.out.below b3
  have G3 : Hid (Chg (· = c) w w3) := G2b.out.step b3
  have I3:=z0f I2 b3
  have q3:c<w3.heap.size:=H3.out.lt
  have q3':bg<w3.heap.size:=(Array.getElem?_eq_some_iff.1 I3).1
  clear b3 H2b G2b I2 i0 i1 il CG q2
  go_wp2_with fail
  have TT:Hid (Told w ((w3.alloc (.cells #[.string ⟨nm.toArray⟩,.int .i64 d,.int .i64 a,.int .i64 b,.int .i32 m,.bool true] 104)).alloc (.cells #[.string ⟨nm.toArray⟩,.int .i64 d,.int .i64 a,.int .i64 b,.int .i32 m] 52)) c s (w3.heap.size+1) bg nm d a b m x):=by
    refine⟨H3.out.below box2,(G3.out.alloc _).alloc _,?_,z0f I3 box2,by omega,nbg⟩
    have:=z0g (w3.alloc (.cells #[.string ⟨nm.toArray⟩,.int .i64 d,.int .i64 a,.int .i64 b,.int .i32 m,.bool true] 104)) (.cells #[.string ⟨nm.toArray⟩,.int .i64 d,.int .i64 a,.int .i64 b,.int .i32 m] 52)
    rwa [World.size_alloc] at this
  have TO:Hid (((w3.alloc (.cells #[.string ⟨nm.toArray⟩,.int .i64 d,.int .i64 a,.int .i64 b,.int .i32 m,.bool true] 104)).alloc (.cells #[.string ⟨nm.toArray⟩,.int .i64 d,.int .i64 a,.int .i64 b,.int .i32 m] 52)).heap[w3.heap.size]?=some (.cells #[.string ⟨nm.toArray⟩,.int .i64 d,.int .i64 a,.int .i64 b,.int .i32 m,.bool true] 104)):=z0m ((Below.refl _ _).alloc (Nat.le_refl _) _)
  clear H3 G3 I3 nbg
  generalize (w3.alloc (.cells #[.string ⟨nm.toArray⟩,.int .i64 d,.int .i64 a,.int .i64 b,.int .i32 m,.bool true] 104)).alloc (.cells #[.string ⟨nm.toArray⟩,.int .i64 d,.int .i64 a,.int .i64 b,.int .i32 m] 52)=V3 at *
  generalize w3.heap.size=bt at *
  refine Calls.mono (CK.out _) ?_
  rintro e w4 ⟨rfl,b4⟩
  have T4:Hid _:=TT.out.below b4
  have t5:=(z0a (z0f TO.out b4)).1 5 (.bool true) rfl
  have i0:=(z0a T4.out.ins).1 0 (.string ⟨nm.toArray⟩) rfl
  have i2:=(z0a T4.out.ins).1 2 (.int .i64 a) rfl
  have i3:=(z0a T4.out.ins).1 3 (.int .i64 b) rfl
  have i4:=(z0a T4.out.ins).1 4 (.int .i32 m) rfl
  have xa:=T4.out.core.x a hla
  have xb:=T4.out.core.x b hlb
  have c34:=T4.out.core.cell 34 (by decide)
  have e34:z0l s 34=.bool true:=by show Value.bool s.u=_;rw[hu']
  rw[e34] at c34
  clear b4 TT TO CK e34
  go_wp2_with fail
  --DBG
  go_quiet (fail)
  have T5:Hid _:=T4.out.below (z0u w4.heap.size w4 nq)
  have j0:=(z0a T5.out.ins).1 0 (.string ⟨nm.toArray⟩) rfl
  have j1:=(z0a T5.out.ins).1 1 (.int .i64 d) rfl
  have cr:=T5.out.core.x d hld
  have fr:=T5.out.core.free (1+d)
  clear T4 t5 i0 i2 i3 i4 xa xb c34
  generalize w4.drewN nq=W5 at *
  generalize bt+1=bi at *
  have HMU0:U32 (m%4294967296):=⟨by omega,by omega⟩
  generalize hmu:m%4294967296=mu at *
  have HMU:Hid (m%4294967296=mu):=hmu
  have HMV:Hid (U32 mu):=HMU0
  clear hmu HMU0
  have hn:=HNM.out
  clear HNM
  rcases hn with rfl | rfl | rfl
  · have HQ:Hid (U32 ((s.f a+mu)%4294967296)):=⟨by omega,by omega⟩
    clear cr fr j1
    go_wp2_with fail
    refine (dstore (HM.out.on T5.out.core T5.out.chg) HF.out _ 1 _ HQ.out (by decide) (HF.out.f b)).mono ?_
    rintro e w7 ⟨rfl,h7⟩
    have H7:Hid _:=h7
    clear h7
    go_wp2
    go_end0
    refine⟨rfl,?_⟩
    rw[insC_sb,HMU.out]
    exact z6i T5.out.chg H7.out
  · have HQ:Hid (U32 ((s.f a+mu)%4294967296)):=⟨by omega,by omega⟩
    clear cr fr j1
    go_wp2_with fail
    refine (dstore (HM.out.on T5.out.core T5.out.chg) HF.out _ 2 _ HQ.out (by decide) (HF.out.f b)).mono ?_
    rintro e w7 ⟨rfl,h7⟩
    have H7:Hid _:=h7
    clear h7
    go_wp2
    go_end0
    refine⟨rfl,?_⟩
    rw[insC_sh,HMU.out]
    exact z6i T5.out.chg H7.out
  · have HQ:Hid (U32 ((s.f a+mu)%4294967296)):=⟨by omega,by omega⟩
    clear cr fr j1
    go_wp2_with fail
    refine (dstore (HM.out.on T5.out.core T5.out.chg) HF.out _ 4 _ HQ.out (by decide) (HF.out.f b)).mono ?_
    rintro e w7 ⟨rfl,h7⟩
    have H7:Hid _:=h7
    clear h7
    go_wp2
    go_end0
    refine⟨rfl,?_⟩
    rw[insC_sw,HMU.out]
    exact z6i T5.out.chg H7.out
theorem mdo_c_false {w : World} {c bm cap B : Nat} {s : CS} {l : List Int} {es : List Ev} (h : z1q w c bm cap B s l es) (hF : Fine s es) (hu : s.u = false) (hp : s.f 32 % 4 = 0) (ha : askV l.length (s.f 32) 4 = 0)
    (nm:List UInt8) (d a b:Nat) (m x:Int) (hx:z1l l (s.f 32) 4 false=x) (hg:getV (z1l l (s.f 32) 4 false)=some ⟨nm,d,a,b,m⟩) (hld:d<32) (hla:a<32) (hlb:b<32) (hm0:0≤m) (hm1:m<4096) (hn:nm=[99,115,114,114,119]∨nm=[99,115,114,114,115]∨nm=[99,115,114,114,99]) :
    Calls Tryz.prog 30 #[.pointer (some ⟨c,0,none⟩)] w fun e w'=>e=.returned (.tuple #[])∧Went w w' c bm cap B s (insC s l es ⟨nm,d,a,b,m⟩ x):=by
  have hu':=hu
  have HNM:Hid _:=hn
  clear hn
  have HM:Hid _:=h
  have HF:Hid _:=hF
  have HT:Hid (0≤s.t):=hF.t0
  have HT':Hid (s.t≤1152921504606846976):=by have:=hF.t1;show _≤_;omega
  have c33:=h.core.cell 33 (by decide)
  have e33:z0l s 33=.int .u32 (s.f 32):=rfl
  rw[e33] at c33
  have c34:=h.core.cell 34 (by decide)
  have e34:z0l s 34=.bool false:=by rw[← hu];rfl
  rw[e34] at c34
  have c0:=h.core.cell 0 (by decide)
  have e0:z0l s 0=.slice (some ⟨bm,0,none⟩) l.length cap:=h.mem.m
  rw[e0] at c0
  have t4:(s.f 32).tmod 4=s.f 32%4:=Int.tmod_eq_emod_of_nonneg (hF.f 32).1
  have p4:(s.f 32%4 != 0)=false:=by simpa using hp
  have CL:Hid _:=fun W hm hl=>z6p bm l.length cap l (s.f 32) 4 false h.mem.len (hF.f 32) h.mem.u W hm hl
  rw[ha,z2p ha] at CL
  have CG:Hid _:=z8g (z2l l (s.f 32) 4) hg
  have CK:Hid _:=z3j nm
  generalize (z0q nm).k=kk at *
  have HX:Hid (z1l l (s.f 32) 4 false=x):=hx
  rw[hx] at CL CG
  generalize hpc:s.f 32=pc at *
  have HPC:Hid (s.f 32=pc):=hpc
  have ha0:(0:Int)≤(a:Int):=by omega
  have ha1:(a:Int)<32:=by omega
  have hb0:(0:Int)≤(b:Int):=by omega
  have hb1:(b:Int)<32:=by omega
  have hd0:(0:Int)≤(d:Int):=by omega
  have hd1:(d:Int)<32:=by omega
  clear h hF hp ha hg hx hpc hu e33 e34 e0
  go_enter Tryz.func30,Tryz.ntmps30
  go_wp2_with fail
  refine Calls.mono (CL.out w HM.out.mem.mem HM.out.mem.lt) ?_
  rintro e w2 ⟨rfl,b2⟩
  have H2:Hid (z0i w2 c s):=HM.out.core.below b2
  have G2 : Hid (Chg (· = c) w w2) := Chg.of b2
  clear CL b2 c0
  have q2:c<w2.heap.size:=H2.out.lt
  have H2b:Hid (z0i (w2.alloc (.cells #[.int .u32 x,.int .i64 0] 81)) c s):=H2.out.below ((Below.refl _ _).alloc (Nat.le_refl _) _)
  have G2b : Hid (Chg (· = c) w (w2.alloc (.cells #[.int .u32 x, .int .i64 0] 81))) := G2.out.alloc _
  have I2:=z0g w2 (.cells #[.int .u32 x,.int .i64 0] 81)
  obtain⟨ic,_,il⟩:=z0a I2
  have i0:=ic 0 (.int .u32 x) rfl
  have i1:=ic 1 (.int .i64 0) rfl
  clear H2 G2 ic
  go_wp2_with fail
  generalize w2.alloc (.cells #[.int .u32 x,.int .i64 0] 81)=V2 at *
  have nbg:w2.heap.size≠c:=by omega
  generalize w2.heap.size=bg at *
  refine Calls.mono (CG.out _) ?_
  rintro e w3 ⟨rfl,b3⟩
  have H3:Hid (z0i w3 c s):=H2b.out.below b3
  have G3 : Hid (Chg (· = c) w w3) := G2b.out.step b3
  have I3:=z0f I2 b3
  have q3:c<w3.heap.size:=H3.out.lt
  have q3':bg<w3.heap.size:=(Array.getElem?_eq_some_iff.1 I3).1
  clear b3 H2b G2b I2 i0 i1 il CG q2
  go_wp2_with fail
  have TT:Hid (Told w ((w3.alloc (.cells #[.string ⟨nm.toArray⟩,.int .i64 d,.int .i64 a,.int .i64 b,.int .i32 m,.bool true] 104)).alloc (.cells #[.string ⟨nm.toArray⟩,.int .i64 d,.int .i64 a,.int .i64 b,.int .i32 m] 52)) c s (w3.heap.size+1) bg nm d a b m x):=by
    refine⟨H3.out.below box2,(G3.out.alloc _).alloc _,?_,z0f I3 box2,by omega,nbg⟩
    have:=z0g (w3.alloc (.cells #[.string ⟨nm.toArray⟩,.int .i64 d,.int .i64 a,.int .i64 b,.int .i32 m,.bool true] 104)) (.cells #[.string ⟨nm.toArray⟩,.int .i64 d,.int .i64 a,.int .i64 b,.int .i32 m] 52)
    rwa [World.size_alloc] at this
  have TO:Hid (((w3.alloc (.cells #[.string ⟨nm.toArray⟩,.int .i64 d,.int .i64 a,.int .i64 b,.int .i32 m,.bool true] 104)).alloc (.cells #[.string ⟨nm.toArray⟩,.int .i64 d,.int .i64 a,.int .i64 b,.int .i32 m] 52)).heap[w3.heap.size]?=some (.cells #[.string ⟨nm.toArray⟩,.int .i64 d,.int .i64 a,.int .i64 b,.int .i32 m,.bool true] 104)):=z0m ((Below.refl _ _).alloc (Nat.le_refl _) _)
  clear H3 G3 I3 nbg
  generalize (w3.alloc (.cells #[.string ⟨nm.toArray⟩,.int .i64 d,.int .i64 a,.int .i64 b,.int .i32 m,.bool true] 104)).alloc (.cells #[.string ⟨nm.toArray⟩,.int .i64 d,.int .i64 a,.int .i64 b,.int .i32 m] 52)=V3 at *
  generalize w3.heap.size=bt at *
  refine Calls.mono (CK.out _) ?_
  rintro e w4 ⟨rfl,b4⟩
  have T4:Hid _:=TT.out.below b4
  have t5:=(z0a (z0f TO.out b4)).1 5 (.bool true) rfl
  have i0:=(z0a T4.out.ins).1 0 (.string ⟨nm.toArray⟩) rfl
  have i2:=(z0a T4.out.ins).1 2 (.int .i64 a) rfl
  have i3:=(z0a T4.out.ins).1 3 (.int .i64 b) rfl
  have i4:=(z0a T4.out.ins).1 4 (.int .i32 m) rfl
  have xa:=T4.out.core.x a hla
  have xb:=T4.out.core.x b hlb
  have c34:=T4.out.core.cell 34 (by decide)
  have e34:z0l s 34=.bool false:=by show Value.bool s.u=_;rw[hu']
  rw[e34] at c34
  clear b4 TT TO CK e34
  go_wp2_with fail
  --DBG
  go_quiet (fail)
  have T5:Hid _:=T4.out.below (z0u w4.heap.size w4 nq)
  have j0:=(z0a T5.out.ins).1 0 (.string ⟨nm.toArray⟩) rfl
  have j1:=(z0a T5.out.ins).1 1 (.int .i64 d) rfl
  have cr:=T5.out.core.x d hld
  have fr:=T5.out.core.free (1+d)
  clear T4 t5 i0 i2 i3 i4 xa xb c34 c33
  generalize w4.drewN nq=W5 at *
  generalize bt+1=bi at *
  have HMU0:U32 (m%4294967296):=⟨by omega,by omega⟩
  generalize hmu:m%4294967296=mu at *
  have HMU:Hid (m%4294967296=mu):=hmu
  have HMV:Hid (U32 mu):=HMU0
  clear hmu HMU0
  have hn:=HNM.out
  clear HNM
  rcases hn with rfl | rfl | rfl
  · clear cr fr
    have j2:=(z0a T5.out.ins).1 2 (.int .i64 a) rfl
    have j3:=(z0a T5.out.ins).1 3 (.int .i64 b) rfl
    have j4:=(z0a T5.out.ins).1 4 (.int .i32 m) rfl
    have g0:=(z0a T5.out.got).1 0 (.int .u32 x) rfl
    go_wp2_with fail
    refine (mcsr_w T5.out.core HF.out.f HT.out HT'.out d hld a b m (s.f a) x hm0 hm1 (HF.out.f a)).mono ?_
    rintro e w7 ⟨rfl,h7,g7⟩
    have H7:Hid _:=h7
    have G7:Hid _:=T5.out.chg.trans g7
    clear h7 g7
    go_wp2
    go_end0
    refine⟨rfl,?_⟩
    rw[insC_csrrw]
    refine z0x HM.out H7.out G7.out ?_ ?_
    · unfold csrS;repeat' split
      all_goals rfl
    · unfold csrS;repeat' split
      all_goals rfl
  · clear cr fr
    have j2:=(z0a T5.out.ins).1 2 (.int .i64 a) rfl
    have j3:=(z0a T5.out.ins).1 3 (.int .i64 b) rfl
    have j4:=(z0a T5.out.ins).1 4 (.int .i32 m) rfl
    have g0:=(z0a T5.out.got).1 0 (.int .u32 x) rfl
    go_wp2_with fail
    refine (mcsr_s T5.out.core HF.out.f HT.out HT'.out d hld a b m (s.f a) x hm0 hm1 (HF.out.f a)).mono ?_
    rintro e w7 ⟨rfl,h7,g7⟩
    have H7:Hid _:=h7
    have G7:Hid _:=T5.out.chg.trans g7
    clear h7 g7
    go_wp2
    go_end0
    refine⟨rfl,?_⟩
    rw[insC_csrrs]
    refine z0x HM.out H7.out G7.out ?_ ?_
    · unfold csrS;repeat' split
      all_goals rfl
    · unfold csrS;repeat' split
      all_goals rfl
  · clear cr fr
    have j2:=(z0a T5.out.ins).1 2 (.int .i64 a) rfl
    have j3:=(z0a T5.out.ins).1 3 (.int .i64 b) rfl
    have j4:=(z0a T5.out.ins).1 4 (.int .i32 m) rfl
    have g0:=(z0a T5.out.got).1 0 (.int .u32 x) rfl
    go_wp2_with fail
    refine (mcsr_c T5.out.core HF.out.f HT.out HT'.out d hld a b m (s.f a) x hm0 hm1 (HF.out.f a)).mono ?_
    rintro e w7 ⟨rfl,h7,g7⟩
    have H7:Hid _:=h7
    have G7:Hid _:=T5.out.chg.trans g7
    clear h7 g7
    go_wp2
    go_end0
    refine⟨rfl,?_⟩
    rw[insC_csrrc]
    refine z0x HM.out H7.out G7.out ?_ ?_
    · unfold csrS;repeat' split
      all_goals rfl
    · unfold csrS;repeat' split
      all_goals rfl
theorem mdo_m_false {w : World} {c bm cap B : Nat} {s : CS} {l : List Int} {es : List Ev} (h : z1q w c bm cap B s l es) (hF : Fine s es) (hu : s.u = false) (hp : s.f 32 % 4 = 0) (ha : askV l.length (s.f 32) 4 = 0)
    (nm:List UInt8) (d a b:Nat) (m x:Int) (hx:z1l l (s.f 32) 4 false=x) (hg:getV (z1l l (s.f 32) 4 false)=some ⟨nm,d,a,b,m⟩) (hld:d<32) (hla:a<32) (hlb:b<32) (hn:nm=[102,101,110,99,101]∨nm=[101,99,97,108,108]∨nm=[101,98,114,101,97,107]) :
    Calls Tryz.prog 30 #[.pointer (some ⟨c,0,none⟩)] w fun e w'=>e=.returned (.tuple #[])∧Went w w' c bm cap B s (insC s l es ⟨nm,d,a,b,m⟩ x):=by
  have hu':=hu
  have HNM:Hid _:=hn
  clear hn
  have HM:Hid _:=h
  have HF:Hid _:=hF
  have HT:Hid (0≤s.t):=hF.t0
  have HT':Hid (s.t≤1152921504606846976):=by have:=hF.t1;show _≤_;omega
  have c33:=h.core.cell 33 (by decide)
  have e33:z0l s 33=.int .u32 (s.f 32):=rfl
  rw[e33] at c33
  have c34:=h.core.cell 34 (by decide)
  have e34:z0l s 34=.bool false:=by rw[← hu];rfl
  rw[e34] at c34
  have c0:=h.core.cell 0 (by decide)
  have e0:z0l s 0=.slice (some ⟨bm,0,none⟩) l.length cap:=h.mem.m
  rw[e0] at c0
  have t4:(s.f 32).tmod 4=s.f 32%4:=Int.tmod_eq_emod_of_nonneg (hF.f 32).1
  have p4:(s.f 32%4 != 0)=false:=by simpa using hp
  have CL:Hid _:=fun W hm hl=>z6p bm l.length cap l (s.f 32) 4 false h.mem.len (hF.f 32) h.mem.u W hm hl
  rw[ha,z2p ha] at CL
  have CG:Hid _:=z8g (z2l l (s.f 32) 4) hg
  have CK:Hid _:=z3j nm
  generalize (z0q nm).k=kk at *
  have HX:Hid (z1l l (s.f 32) 4 false=x):=hx
  rw[hx] at CL CG
  generalize hpc:s.f 32=pc at *
  have HPC:Hid (s.f 32=pc):=hpc
  have ha0:(0:Int)≤(a:Int):=by omega
  have ha1:(a:Int)<32:=by omega
  have hb0:(0:Int)≤(b:Int):=by omega
  have hb1:(b:Int)<32:=by omega
  have hd0:(0:Int)≤(d:Int):=by omega
  have hd1:(d:Int)<32:=by omega
  clear h hF hp ha hg hx hpc hu e33 e34 e0
  go_enter Tryz.func30,Tryz.ntmps30
  go_wp2_with fail
  refine Calls.mono (CL.out w HM.out.mem.mem HM.out.mem.lt) ?_
  rintro e w2 ⟨rfl,b2⟩
  have H2:Hid (z0i w2 c s):=HM.out.core.below b2
  have G2 : Hid (Chg (· = c) w w2) := Chg.of b2
  clear CL b2 c0
  have q2:c<w2.heap.size:=H2.out.lt
  have H2b:Hid (z0i (w2.alloc (.cells #[.int .u32 x,.int .i64 0] 81)) c s):=H2.out.below ((Below.refl _ _).alloc (Nat.le_refl _) _)
  have G2b : Hid (Chg (· = c) w (w2.alloc (.cells #[.int .u32 x, .int .i64 0] 81))) := G2.out.alloc _
  have I2:=z0g w2 (.cells #[.int .u32 x,.int .i64 0] 81)
  obtain⟨ic,_,il⟩:=z0a I2
  have i0:=ic 0 (.int .u32 x) rfl
  have i1:=ic 1 (.int .i64 0) rfl
  clear H2 G2 ic
  go_wp2_with fail
  generalize w2.alloc (.cells #[.int .u32 x,.int .i64 0] 81)=V2 at *
  have nbg:w2.heap.size≠c:=by omega
  generalize w2.heap.size=bg at *
  refine Calls.mono (CG.out _) ?_
  rintro e w3 ⟨rfl,b3⟩
  have H3:Hid (z0i w3 c s):=H2b.out.below b3
  have G3 : Hid (Chg (· = c) w w3) := G2b.out.step b3
  have I3:=z0f I2 b3
  have q3:c<w3.heap.size:=H3.out.lt
  have q3':bg<w3.heap.size:=(Array.getElem?_eq_some_iff.1 I3).1
  clear b3 H2b G2b I2 i0 i1 il CG q2
  go_wp2_with fail
  have TT:Hid (Told w ((w3.alloc (.cells #[.string ⟨nm.toArray⟩,.int .i64 d,.int .i64 a,.int .i64 b,.int .i32 m,.bool true] 104)).alloc (.cells #[.string ⟨nm.toArray⟩,.int .i64 d,.int .i64 a,.int .i64 b,.int .i32 m] 52)) c s (w3.heap.size+1) bg nm d a b m x):=by
    refine⟨H3.out.below box2,(G3.out.alloc _).alloc _,?_,z0f I3 box2,by omega,nbg⟩
    have:=z0g (w3.alloc (.cells #[.string ⟨nm.toArray⟩,.int .i64 d,.int .i64 a,.int .i64 b,.int .i32 m,.bool true] 104)) (.cells #[.string ⟨nm.toArray⟩,.int .i64 d,.int .i64 a,.int .i64 b,.int .i32 m] 52)
    rwa [World.size_alloc] at this
  have TO:Hid (((w3.alloc (.cells #[.string ⟨nm.toArray⟩,.int .i64 d,.int .i64 a,.int .i64 b,.int .i32 m,.bool true] 104)).alloc (.cells #[.string ⟨nm.toArray⟩,.int .i64 d,.int .i64 a,.int .i64 b,.int .i32 m] 52)).heap[w3.heap.size]?=some (.cells #[.string ⟨nm.toArray⟩,.int .i64 d,.int .i64 a,.int .i64 b,.int .i32 m,.bool true] 104)):=z0m ((Below.refl _ _).alloc (Nat.le_refl _) _)
  clear H3 G3 I3 nbg
  generalize (w3.alloc (.cells #[.string ⟨nm.toArray⟩,.int .i64 d,.int .i64 a,.int .i64 b,.int .i32 m,.bool true] 104)).alloc (.cells #[.string ⟨nm.toArray⟩,.int .i64 d,.int .i64 a,.int .i64 b,.int .i32 m] 52)=V3 at *
  generalize w3.heap.size=bt at *
  refine Calls.mono (CK.out _) ?_
  rintro e w4 ⟨rfl,b4⟩
  have T4:Hid _:=TT.out.below b4
  have t5:=(z0a (z0f TO.out b4)).1 5 (.bool true) rfl
  have i0:=(z0a T4.out.ins).1 0 (.string ⟨nm.toArray⟩) rfl
  have i2:=(z0a T4.out.ins).1 2 (.int .i64 a) rfl
  have i3:=(z0a T4.out.ins).1 3 (.int .i64 b) rfl
  have i4:=(z0a T4.out.ins).1 4 (.int .i32 m) rfl
  have xa:=T4.out.core.x a hla
  have xb:=T4.out.core.x b hlb
  have c34:=T4.out.core.cell 34 (by decide)
  have e34:z0l s 34=.bool false:=by show Value.bool s.u=_;rw[hu']
  rw[e34] at c34
  clear b4 TT TO CK e34
  go_wp2_with fail
  --DBG
  go_quiet (fail)
  have T5:Hid _:=T4.out.below (z0u w4.heap.size w4 nq)
  have j0:=(z0a T5.out.ins).1 0 (.string ⟨nm.toArray⟩) rfl
  have j1:=(z0a T5.out.ins).1 1 (.int .i64 d) rfl
  have cr:=T5.out.core.x d hld
  have fr:=T5.out.core.free (1+d)
  clear T4 t5 i0 i2 i3 i4 xa xb c34 c33
  generalize w4.drewN nq=W5 at *
  generalize bt+1=bi at *
  have HMU0:U32 (m%4294967296):=⟨by omega,by omega⟩
  generalize hmu:m%4294967296=mu at *
  have HMU:Hid (m%4294967296=mu):=hmu
  have HMV:Hid (U32 mu):=HMU0
  clear hmu HMU0
  have hn:=HNM.out
  clear HNM
  rcases hn with rfl | rfl | rfl
  · clear cr fr j1
    go_wp2_with fail
    refine (z4l T5.out.core _ 1 HT.out HT'.out (by decide) (by decide)).mono ?_
    rintro e w7 ⟨rfl,h7,g7⟩
    have H7:Hid _:=h7
    have G7:Hid _:=T5.out.chg.trans g7
    clear h7 g7
    go_wp2
    go_end0
    refine⟨rfl,?_⟩
    rw[insC_fence,HPC.out]
    exact z0x HM.out H7.out G7.out rfl rfl
  · clear cr fr j1
    have c34:=T5.out.core.cell 34 (by decide)
    have e34:z0l s 34=.bool false:=by show Value.bool s.u=_;rw[hu']
    rw[e34] at c34
    clear e34
    go_wp2_with fail
    refine (z3l T5.out.core HF.out.f 11 0 HT.out HT'.out).mono ?_
    rintro e w7 ⟨rfl,h7,g7⟩
    have H7:Hid _:=h7
    have G7:Hid _:=T5.out.chg.trans g7
    clear h7 g7
    go_wp2
    go_end0
    refine⟨rfl,?_⟩
    rw[insC_ecall,hu']
    exact z0x HM.out H7.out G7.out rfl rfl
  · clear cr fr j1
    go_wp2_with fail
    refine (z3l T5.out.core HF.out.f 3 pc HT.out HT'.out).mono ?_
    rintro e w7 ⟨rfl,h7,g7⟩
    have H7:Hid _:=h7
    have G7:Hid _:=T5.out.chg.trans g7
    clear h7 g7
    go_wp2
    go_end0
    refine⟨rfl,?_⟩
    rw[insC_ebreak,HPC.out]
    exact z0x HM.out H7.out G7.out rfl rfl
theorem mdo_m_true {w : World} {c bm cap B : Nat} {s : CS} {l : List Int} {es : List Ev} (h : z1q w c bm cap B s l es) (hF : Fine s es) (hu : s.u = true) (hp : s.f 32 % 4 = 0) (ha : askV l.length (s.f 32) 4 = 0)
    (nm:List UInt8) (d a b:Nat) (m x:Int) (hx:z1l l (s.f 32) 4 false=x) (hg:getV (z1l l (s.f 32) 4 false)=some ⟨nm,d,a,b,m⟩) (hld:d<32) (hla:a<32) (hlb:b<32) (hal:z2m (ofV (gw s.f)) (s.f 32) 4 2=true) (hk67:¬(z0q nm).k=67) (hnm:¬nm=[109,114,101,116]) (hnw:¬nm=[119,102,105]) (hn:nm=[102,101,110,99,101]∨nm=[101,99,97,108,108]∨nm=[101,98,114,101,97,107]) :
    Calls Tryz.prog 30 #[.pointer (some ⟨c,0,none⟩)] w fun e w'=>e=.returned (.tuple #[])∧Went w w' c bm cap B s (insC s l es ⟨nm,d,a,b,m⟩ x):=by
  have hu':=hu
  have HNM:Hid _:=hn
  clear hn
  have HM:Hid _:=h
  have HF:Hid _:=hF
  have HT:Hid (0≤s.t):=hF.t0
  have HT':Hid (s.t≤1152921504606846976):=by have:=hF.t1;show _≤_;omega
  have c33:=h.core.cell 33 (by decide)
  have e33:z0l s 33=.int .u32 (s.f 32):=rfl
  rw[e33] at c33
  have c34:=h.core.cell 34 (by decide)
  have e34:z0l s 34=.bool true:=by rw[← hu];rfl
  rw[e34] at c34
  have c0:=h.core.cell 0 (by decide)
  have e0:z0l s 0=.slice (some ⟨bm,0,none⟩) l.length cap:=h.mem.m
  rw[e0] at c0
  have t4:(s.f 32).tmod 4=s.f 32%4:=Int.tmod_eq_emod_of_nonneg (hF.f 32).1
  have p4:(s.f 32%4 != 0)=false:=by simpa using hp
  have CL:Hid _:=fun W hm hl=>z6p bm l.length cap l (s.f 32) 4 false h.mem.len (hF.f 32) h.mem.u W hm hl
  rw[ha,z2p ha] at CL
  have CG:Hid _:=z8g (z2l l (s.f 32) 4) hg
  have CK:Hid _:=z3j nm
  have HG:Hid (∀ i,U32 (gw s.f i)):=fun i=>HF.out.f _
  have HP:Hid (U32 (s.f 32)):=hF.f 32
  have HAL:Hid _:=hal
  have k67:((z0q nm).k==67)=false:=by simpa using hk67
  have RG:Hid _:=z1x h.core
  have z1:(nm==[109,114,101,116])=false:=by rw[beq_eq_false_iff_ne];exact hnm
  have z2:(nm==[119,102,105])=false:=by rw[beq_eq_false_iff_ne];exact hnw
  have z3:((⟨nm.toArray⟩:ByteArray).toList==[109,114,101,116])=false:=by rw[ByteArray.toList_eq];exact z1
  have z4:((⟨nm.toArray⟩:ByteArray).toList==[119,102,105])=false:=by rw[ByteArray.toList_eq];exact z2
  clear hal hk67 hnm hnw
  generalize (z0q nm).k=kk at *
  have HX:Hid (z1l l (s.f 32) 4 false=x):=hx
  rw[hx] at CL CG
  generalize hpc:s.f 32=pc at *
  have HPC:Hid (s.f 32=pc):=hpc
  have ha0:(0:Int)≤(a:Int):=by omega
  have ha1:(a:Int)<32:=by omega
  have hb0:(0:Int)≤(b:Int):=by omega
  have hb1:(b:Int)<32:=by omega
  have hd0:(0:Int)≤(d:Int):=by omega
  have hd1:(d:Int)<32:=by omega
  clear h hF hp ha hg hx hpc hu e33 e34 e0
  go_enter Tryz.func30,Tryz.ntmps30
  go_wp2_with (first | (refine z0w (by rfl) 30 (.tmp 30) rfl c 42 rfl (z2n (gw s.f)) _ RG.out z7e rfl (by rw[z1r];exact z4r) ?_))
  refine (rOf _ HG.out _).mono ?_
  rintro e v4 ⟨g,cg,rfl,-,-,hcg,hreg,b4⟩
  have B4:Hid _:=b4
  have RR:Hid _:=hreg
  clear hreg b4 hcg RG
  go_wp2_with fail
  refine (z6a RR.out (z8q HG.out) 8 cg rfl (by decide) pc 4 2 HP.out ⟨by decide,by decide⟩).mono ?_
  rintro e v5 ⟨rfl,b5⟩
  rw[HAL.out]
  have B5:Hid (Below w.heap.size w v5):=z0e B4.out b5
  clear b5 B4 RR HAL
  have M5:Hid (z0i v5 c s):=HM.out.core.below B5.out
  have N5:Hid _:=HM.out.mem.on (Chg.of B5.out) rfl
  have c0:=M5.out.cell 0 (by decide)
  have e0:z0l s 0=.slice (some ⟨bm,0,none⟩) l.length cap:=HM.out.mem.m
  rw[e0] at c0
  clear c33 c34 e0
  go_wp2_with fail
  refine Calls.mono (CL.out v5 N5.out.mem N5.out.lt) ?_
  rintro e w2 ⟨rfl,b2⟩
  have H2:Hid (z0i w2 c s):=M5.out.below b2
  have G2 : Hid (Chg (· = c) w w2) := (Chg.of B5.out).step b2
  clear M5 N5 B5
  clear CL b2 c0
  have q2:c<w2.heap.size:=H2.out.lt
  have H2b:Hid (z0i (w2.alloc (.cells #[.int .u32 x,.int .i64 0] 81)) c s):=H2.out.below ((Below.refl _ _).alloc (Nat.le_refl _) _)
  have G2b : Hid (Chg (· = c) w (w2.alloc (.cells #[.int .u32 x, .int .i64 0] 81))) := G2.out.alloc _
  have I2:=z0g w2 (.cells #[.int .u32 x,.int .i64 0] 81)
  obtain⟨ic,_,il⟩:=z0a I2
  have i0:=ic 0 (.int .u32 x) rfl
  have i1:=ic 1 (.int .i64 0) rfl
  clear H2 G2 ic
  go_wp2_with fail
  generalize w2.alloc (.cells #[.int .u32 x,.int .i64 0] 81)=V2 at *
  have nbg:w2.heap.size≠c:=by omega
  generalize w2.heap.size=bg at *
  refine Calls.mono (CG.out _) ?_
  rintro e w3 ⟨rfl,b3⟩
  have H3:Hid (z0i w3 c s):=H2b.out.below b3
  have G3 : Hid (Chg (· = c) w w3) := G2b.out.step b3
  have I3:=z0f I2 b3
  have q3:c<w3.heap.size:=H3.out.lt
  have q3':bg<w3.heap.size:=(Array.getElem?_eq_some_iff.1 I3).1
  clear b3 H2b G2b I2 i0 i1 il CG q2
  go_wp2_with fail
  have TT:Hid (Told w ((w3.alloc (.cells #[.string ⟨nm.toArray⟩,.int .i64 d,.int .i64 a,.int .i64 b,.int .i32 m,.bool true] 104)).alloc (.cells #[.string ⟨nm.toArray⟩,.int .i64 d,.int .i64 a,.int .i64 b,.int .i32 m] 52)) c s (w3.heap.size+1) bg nm d a b m x):=by
    refine⟨H3.out.below box2,(G3.out.alloc _).alloc _,?_,z0f I3 box2,by omega,nbg⟩
    have:=z0g (w3.alloc (.cells #[.string ⟨nm.toArray⟩,.int .i64 d,.int .i64 a,.int .i64 b,.int .i32 m,.bool true] 104)) (.cells #[.string ⟨nm.toArray⟩,.int .i64 d,.int .i64 a,.int .i64 b,.int .i32 m] 52)
    rwa [World.size_alloc] at this
  have TO:Hid (((w3.alloc (.cells #[.string ⟨nm.toArray⟩,.int .i64 d,.int .i64 a,.int .i64 b,.int .i32 m,.bool true] 104)).alloc (.cells #[.string ⟨nm.toArray⟩,.int .i64 d,.int .i64 a,.int .i64 b,.int .i32 m] 52)).heap[w3.heap.size]?=some (.cells #[.string ⟨nm.toArray⟩,.int .i64 d,.int .i64 a,.int .i64 b,.int .i32 m,.bool true] 104)):=z0m ((Below.refl _ _).alloc (Nat.le_refl _) _)
  clear H3 G3 I3 nbg
  generalize (w3.alloc (.cells #[.string ⟨nm.toArray⟩,.int .i64 d,.int .i64 a,.int .i64 b,.int .i32 m,.bool true] 104)).alloc (.cells #[.string ⟨nm.toArray⟩,.int .i64 d,.int .i64 a,.int .i64 b,.int .i32 m] 52)=V3 at *
  generalize w3.heap.size=bt at *
  refine Calls.mono (CK.out _) ?_
  rintro e w4 ⟨rfl,b4⟩
  have T4:Hid _:=TT.out.below b4
  have t5:=(z0a (z0f TO.out b4)).1 5 (.bool true) rfl
  have i0:=(z0a T4.out.ins).1 0 (.string ⟨nm.toArray⟩) rfl
  have i2:=(z0a T4.out.ins).1 2 (.int .i64 a) rfl
  have i3:=(z0a T4.out.ins).1 3 (.int .i64 b) rfl
  have i4:=(z0a T4.out.ins).1 4 (.int .i32 m) rfl
  have xa:=T4.out.core.x a hla
  have xb:=T4.out.core.x b hlb
  have c34:=T4.out.core.cell 34 (by decide)
  have e34:z0l s 34=.bool true:=by show Value.bool s.u=_;rw[hu']
  rw[e34] at c34
  clear b4 TT TO CK e34
  go_wp2_with fail
  --DBG
  go_quiet (fail)
  have T5:Hid _:=T4.out.below (z0u w4.heap.size w4 nq)
  have j0:=(z0a T5.out.ins).1 0 (.string ⟨nm.toArray⟩) rfl
  have j1:=(z0a T5.out.ins).1 1 (.int .i64 d) rfl
  have cr:=T5.out.core.x d hld
  have fr:=T5.out.core.free (1+d)
  clear T4 t5 i0 i2 i3 i4 xa xb c34
  generalize w4.drewN nq=W5 at *
  generalize bt+1=bi at *
  have HMU0:U32 (m%4294967296):=⟨by omega,by omega⟩
  generalize hmu:m%4294967296=mu at *
  have HMU:Hid (m%4294967296=mu):=hmu
  have HMV:Hid (U32 mu):=HMU0
  clear hmu HMU0
  have hn:=HNM.out
  clear HNM
  rcases hn with rfl | rfl | rfl
  · clear cr fr j1
    go_wp2_with fail
    refine (z4l T5.out.core _ 1 HT.out HT'.out (by decide) (by decide)).mono ?_
    rintro e w7 ⟨rfl,h7,g7⟩
    have H7:Hid _:=h7
    have G7:Hid _:=T5.out.chg.trans g7
    clear h7 g7
    go_wp2
    go_end0
    refine⟨rfl,?_⟩
    rw[insC_fence,HPC.out]
    exact z0x HM.out H7.out G7.out rfl rfl
  · clear cr fr j1
    have c34:=T5.out.core.cell 34 (by decide)
    have e34:z0l s 34=.bool true:=by show Value.bool s.u=_;rw[hu']
    rw[e34] at c34
    clear e34
    go_wp2_with fail
    refine (z3l T5.out.core HF.out.f 8 0 HT.out HT'.out).mono ?_
    rintro e w7 ⟨rfl,h7,g7⟩
    have H7:Hid _:=h7
    have G7:Hid _:=T5.out.chg.trans g7
    clear h7 g7
    go_wp2
    go_end0
    refine⟨rfl,?_⟩
    rw[insC_ecall,hu']
    exact z0x HM.out H7.out G7.out rfl rfl
  · clear cr fr j1
    go_wp2_with fail
    refine (z3l T5.out.core HF.out.f 3 pc HT.out HT'.out).mono ?_
    rintro e w7 ⟨rfl,h7,g7⟩
    have H7:Hid _:=h7
    have G7:Hid _:=T5.out.chg.trans g7
    clear h7 g7
    go_wp2
    go_end0
    refine⟨rfl,?_⟩
    rw[insC_ebreak,HPC.out]
    exact z0x HM.out H7.out G7.out rfl rfl
theorem mdo_r_false {w : World} {c bm cap B : Nat} {s : CS} {l : List Int} {es : List Ev} (h : z1q w c bm cap B s l es) (hF : Fine s es) (hu : s.u = false) (hp : s.f 32 % 4 = 0) (ha : askV l.length (s.f 32) 4 = 0)
    (nm:List UInt8) (d a b:Nat) (m x:Int) (hx:z1l l (s.f 32) 4 false=x) (hg:getV (z1l l (s.f 32) 4 false)=some ⟨nm,d,a,b,m⟩) (hld:d<32) (hla:a<32) (hlb:b<32) (hn:nm=[109,114,101,116]) :
    Calls Tryz.prog 30 #[.pointer (some ⟨c,0,none⟩)] w fun e w'=>e=.returned (.tuple #[])∧Went w w' c bm cap B s (insC s l es ⟨nm,d,a,b,m⟩ x):=by
  have hu':=hu
  have HNM:Hid _:=hn
  clear hn
  have HM:Hid _:=h
  have HF:Hid _:=hF
  have HT:Hid (0≤s.t):=hF.t0
  have HT':Hid (s.t≤1152921504606846976):=by have:=hF.t1;show _≤_;omega
  have c33:=h.core.cell 33 (by decide)
  have e33:z0l s 33=.int .u32 (s.f 32):=rfl
  rw[e33] at c33
  have c34:=h.core.cell 34 (by decide)
  have e34:z0l s 34=.bool false:=by rw[← hu];rfl
  rw[e34] at c34
  have c0:=h.core.cell 0 (by decide)
  have e0:z0l s 0=.slice (some ⟨bm,0,none⟩) l.length cap:=h.mem.m
  rw[e0] at c0
  have t4:(s.f 32).tmod 4=s.f 32%4:=Int.tmod_eq_emod_of_nonneg (hF.f 32).1
  have p4:(s.f 32%4 != 0)=false:=by simpa using hp
  have CL:Hid _:=fun W hm hl=>z6p bm l.length cap l (s.f 32) 4 false h.mem.len (hF.f 32) h.mem.u W hm hl
  rw[ha,z2p ha] at CL
  have CG:Hid _:=z8g (z2l l (s.f 32) 4) hg
  have CK:Hid _:=z3j nm
  generalize (z0q nm).k=kk at *
  have HX:Hid (z1l l (s.f 32) 4 false=x):=hx
  rw[hx] at CL CG
  generalize hpc:s.f 32=pc at *
  have HPC:Hid (s.f 32=pc):=hpc
  have ha0:(0:Int)≤(a:Int):=by omega
  have ha1:(a:Int)<32:=by omega
  have hb0:(0:Int)≤(b:Int):=by omega
  have hb1:(b:Int)<32:=by omega
  have hd0:(0:Int)≤(d:Int):=by omega
  have hd1:(d:Int)<32:=by omega
  clear h hF hp ha hg hx hpc hu e33 e34 e0
  go_enter Tryz.func30,Tryz.ntmps30
  go_wp2_with fail
  refine Calls.mono (CL.out w HM.out.mem.mem HM.out.mem.lt) ?_
  rintro e w2 ⟨rfl,b2⟩
  have H2:Hid (z0i w2 c s):=HM.out.core.below b2
  have G2 : Hid (Chg (· = c) w w2) := Chg.of b2
  clear CL b2 c0
  have q2:c<w2.heap.size:=H2.out.lt
  have H2b:Hid (z0i (w2.alloc (.cells #[.int .u32 x,.int .i64 0] 81)) c s):=H2.out.below ((Below.refl _ _).alloc (Nat.le_refl _) _)
  have G2b : Hid (Chg (· = c) w (w2.alloc (.cells #[.int .u32 x, .int .i64 0] 81))) := G2.out.alloc _
  have I2:=z0g w2 (.cells #[.int .u32 x,.int .i64 0] 81)
  obtain⟨ic,_,il⟩:=z0a I2
  have i0:=ic 0 (.int .u32 x) rfl
  have i1:=ic 1 (.int .i64 0) rfl
  clear H2 G2 ic
  go_wp2_with fail
  generalize w2.alloc (.cells #[.int .u32 x,.int .i64 0] 81)=V2 at *
  have nbg:w2.heap.size≠c:=by omega
  generalize w2.heap.size=bg at *
  refine Calls.mono (CG.out _) ?_
  rintro e w3 ⟨rfl,b3⟩
  have H3:Hid (z0i w3 c s):=H2b.out.below b3
  have G3 : Hid (Chg (· = c) w w3) := G2b.out.step b3
  have I3:=z0f I2 b3
  have q3:c<w3.heap.size:=H3.out.lt
  have q3':bg<w3.heap.size:=(Array.getElem?_eq_some_iff.1 I3).1
  clear b3 H2b G2b I2 i0 i1 il CG q2
  go_wp2_with fail
  have TT:Hid (Told w ((w3.alloc (.cells #[.string ⟨nm.toArray⟩,.int .i64 d,.int .i64 a,.int .i64 b,.int .i32 m,.bool true] 104)).alloc (.cells #[.string ⟨nm.toArray⟩,.int .i64 d,.int .i64 a,.int .i64 b,.int .i32 m] 52)) c s (w3.heap.size+1) bg nm d a b m x):=by
    refine⟨H3.out.below box2,(G3.out.alloc _).alloc _,?_,z0f I3 box2,by omega,nbg⟩
    have:=z0g (w3.alloc (.cells #[.string ⟨nm.toArray⟩,.int .i64 d,.int .i64 a,.int .i64 b,.int .i32 m,.bool true] 104)) (.cells #[.string ⟨nm.toArray⟩,.int .i64 d,.int .i64 a,.int .i64 b,.int .i32 m] 52)
    rwa [World.size_alloc] at this
  have TO:Hid (((w3.alloc (.cells #[.string ⟨nm.toArray⟩,.int .i64 d,.int .i64 a,.int .i64 b,.int .i32 m,.bool true] 104)).alloc (.cells #[.string ⟨nm.toArray⟩,.int .i64 d,.int .i64 a,.int .i64 b,.int .i32 m] 52)).heap[w3.heap.size]?=some (.cells #[.string ⟨nm.toArray⟩,.int .i64 d,.int .i64 a,.int .i64 b,.int .i32 m,.bool true] 104)):=z0m ((Below.refl _ _).alloc (Nat.le_refl _) _)
  clear H3 G3 I3 nbg
  generalize (w3.alloc (.cells #[.string ⟨nm.toArray⟩,.int .i64 d,.int .i64 a,.int .i64 b,.int .i32 m,.bool true] 104)).alloc (.cells #[.string ⟨nm.toArray⟩,.int .i64 d,.int .i64 a,.int .i64 b,.int .i32 m] 52)=V3 at *
  generalize w3.heap.size=bt at *
  refine Calls.mono (CK.out _) ?_
  rintro e w4 ⟨rfl,b4⟩
  have T4:Hid _:=TT.out.below b4
  have t5:=(z0a (z0f TO.out b4)).1 5 (.bool true) rfl
  have i0:=(z0a T4.out.ins).1 0 (.string ⟨nm.toArray⟩) rfl
  have i2:=(z0a T4.out.ins).1 2 (.int .i64 a) rfl
  have i3:=(z0a T4.out.ins).1 3 (.int .i64 b) rfl
  have i4:=(z0a T4.out.ins).1 4 (.int .i32 m) rfl
  have xa:=T4.out.core.x a hla
  have xb:=T4.out.core.x b hlb
  have c34:=T4.out.core.cell 34 (by decide)
  have e34:z0l s 34=.bool false:=by show Value.bool s.u=_;rw[hu']
  rw[e34] at c34
  clear b4 TT TO CK e34
  go_wp2_with fail
  --DBG
  go_quiet (fail)
  have T5:Hid _:=T4.out.below (z0u w4.heap.size w4 nq)
  have j0:=(z0a T5.out.ins).1 0 (.string ⟨nm.toArray⟩) rfl
  have j1:=(z0a T5.out.ins).1 1 (.int .i64 d) rfl
  have cr:=T5.out.core.x d hld
  have fr:=T5.out.core.free (1+d)
  clear T4 t5 i0 i2 i3 i4 xa xb c34 c33
  generalize w4.drewN nq=W5 at *
  generalize bt+1=bi at *
  have HMU0:U32 (m%4294967296):=⟨by omega,by omega⟩
  generalize hmu:m%4294967296=mu at *
  have HMU:Hid (m%4294967296=mu):=hmu
  have HMV:Hid (U32 mu):=HMU0
  clear hmu HMU0
  have hn:=HNM.out
  clear HNM
  subst hn
  · clear cr fr j1
    obtain⟨fs,hfs⟩:=z3f
    have HS:Hid _:=hfs
    clear hfs
    have CT:Hid _:=rRet s.f false HF.out.f
    have RG:=T5.out.core.regs
    rw[hu'] at RG
    have RG:Hid _:=RG
    have v1:Hid (wrap64 (s.t+4)=s.t+4):=by have:=HT.out;have:=HT'.out;exact z0y (by omega) (by omega)
    have HRC:Hid (retC s={ s with f:=retF s.f,u:=retU s.f,t:=s.t+4 }):=rfl
    generalize retF s.f=F at *
    generalize retU s.f=U at *
    go_wp2_with (first | (refine z0w (by rfl) 32 (.tmp 316) rfl c 1 rfl (z0c s.f false) _ RG.out HS.out rfl (by rw[z0b];exact z0o) ?_))
    refine (CT.out _).mono ?_
    rintro e w6 ⟨rfl,b6⟩
    have H6:Hid (z0i w6 c s):=T5.out.core.below b6
    have G6 : Hid (Chg (· = c) w w6) := T5.out.chg.step b6
    have TH:Hid _:=H6.out.there
    have H7:Hid (z0i (w6.setCells c 1 (z0c F U).toList) c { s with f:=F,u:=U }):=H6.out.regsIn _ _
    have G7 : Hid (Chg (· = c) w (w6.setCells c 1 (z0c F U).toList)) := G6.out.owns _
    clear b6 CT T5 j0 H6 G6 RG
    rename_i K1 hK1 K2 hK2
    refine hK2 _ _ ?_
    refine z3b ?_ (some 319) rfl (by rfl) ?_ ?_
    rotate_left
    · go_simp
      try with_reducible rfl
    simp only[Act.put,List.setIfInBounds_toArray,List.set_cons_zero,List.set_cons_succ]
    refine z3b ?_ (some 320) rfl (by rfl) ?_ ?_
    rotate_left
    · go_simp
      try with_reducible rfl
    simp only[Act.put,List.setIfInBounds_toArray,List.set_cons_zero,List.set_cons_succ]
    refine z1v rfl 32 (.tmp 320) (.tmp 318) rfl c 1 (z0c F U) rfl rfl (by rw[z0b];exact TH.out) (by rw[z0b];exact z0o) (z0s _ _) ?_
    intro W7 e7
    rw[← e7] at H7 G7
    clear e7
    have c58:W7.cell? ⟨c,58,none⟩=some (.int .i64 s.t):=H7.out.cell 58 (by decide)
    have f58:=H7.out.free 58
    have v2:=v1.out
    go_wp2
    go_end0
    refine⟨rfl,?_⟩
    rw[insC_mret,HRC.out]
    exact z0x HM.out (H7.out.put 58 _ (fun j _=>cg_t { s with f:=F,u:=U } _ j)) (G7.out.own _) rfl rfl
theorem mdo_w_false {w : World} {c bm cap B : Nat} {s : CS} {l : List Int} {es : List Ev} (h : z1q w c bm cap B s l es) (hF : Fine s es) (hu : s.u = false) (hp : s.f 32 % 4 = 0) (ha : askV l.length (s.f 32) 4 = 0)
    (nm:List UInt8) (d a b:Nat) (m x:Int) (hx:z1l l (s.f 32) 4 false=x) (hg:getV (z1l l (s.f 32) 4 false)=some ⟨nm,d,a,b,m⟩) (hld:d<32) (hla:a<32) (hlb:b<32) (hn:nm=[119,102,105]) :
    Calls Tryz.prog 30 #[.pointer (some ⟨c,0,none⟩)] w fun e w'=>e=.returned (.tuple #[])∧Went w w' c bm cap B s (insC s l es ⟨nm,d,a,b,m⟩ x):=by
  have hu':=hu
  have HNM:Hid _:=hn
  clear hn
  have HM:Hid _:=h
  have HF:Hid _:=hF
  have HT:Hid (0≤s.t):=hF.t0
  have HT':Hid (s.t≤1152921504606846976):=by have:=hF.t1;show _≤_;omega
  have c33:=h.core.cell 33 (by decide)
  have e33:z0l s 33=.int .u32 (s.f 32):=rfl
  rw[e33] at c33
  have c34:=h.core.cell 34 (by decide)
  have e34:z0l s 34=.bool false:=by rw[← hu];rfl
  rw[e34] at c34
  have c0:=h.core.cell 0 (by decide)
  have e0:z0l s 0=.slice (some ⟨bm,0,none⟩) l.length cap:=h.mem.m
  rw[e0] at c0
  have t4:(s.f 32).tmod 4=s.f 32%4:=Int.tmod_eq_emod_of_nonneg (hF.f 32).1
  have p4:(s.f 32%4 != 0)=false:=by simpa using hp
  have CL:Hid _:=fun W hm hl=>z6p bm l.length cap l (s.f 32) 4 false h.mem.len (hF.f 32) h.mem.u W hm hl
  rw[ha,z2p ha] at CL
  have CG:Hid _:=z8g (z2l l (s.f 32) 4) hg
  have CK:Hid _:=z3j nm
  generalize (z0q nm).k=kk at *
  have HX:Hid (z1l l (s.f 32) 4 false=x):=hx
  rw[hx] at CL CG
  generalize hpc:s.f 32=pc at *
  have HPC:Hid (s.f 32=pc):=hpc
  have ha0:(0:Int)≤(a:Int):=by omega
  have ha1:(a:Int)<32:=by omega
  have hb0:(0:Int)≤(b:Int):=by omega
  have hb1:(b:Int)<32:=by omega
  have hd0:(0:Int)≤(d:Int):=by omega
  have hd1:(d:Int)<32:=by omega
  clear h hF hp ha hg hx hpc hu e33 e34 e0
  go_enter Tryz.func30,Tryz.ntmps30
  go_wp2_with fail
  refine Calls.mono (CL.out w HM.out.mem.mem HM.out.mem.lt) ?_
  rintro e w2 ⟨rfl,b2⟩
  have H2:Hid (z0i w2 c s):=HM.out.core.below b2
  have G2 : Hid (Chg (· = c) w w2) := Chg.of b2
  clear CL b2 c0
  have q2:c<w2.heap.size:=H2.out.lt
  have H2b:Hid (z0i (w2.alloc (.cells #[.int .u32 x,.int .i64 0] 81)) c s):=H2.out.below ((Below.refl _ _).alloc (Nat.le_refl _) _)
  have G2b : Hid (Chg (· = c) w (w2.alloc (.cells #[.int .u32 x, .int .i64 0] 81))) := G2.out.alloc _
  have I2:=z0g w2 (.cells #[.int .u32 x,.int .i64 0] 81)
  obtain⟨ic,_,il⟩:=z0a I2
  have i0:=ic 0 (.int .u32 x) rfl
  have i1:=ic 1 (.int .i64 0) rfl
  clear H2 G2 ic
  go_wp2_with fail
  generalize w2.alloc (.cells #[.int .u32 x,.int .i64 0] 81)=V2 at *
  have nbg:w2.heap.size≠c:=by omega
  generalize w2.heap.size=bg at *
  refine Calls.mono (CG.out _) ?_
  rintro e w3 ⟨rfl,b3⟩
  have H3:Hid (z0i w3 c s):=H2b.out.below b3
  have G3 : Hid (Chg (· = c) w w3) := G2b.out.step b3
  have I3:=z0f I2 b3
  have q3:c<w3.heap.size:=H3.out.lt
  have q3':bg<w3.heap.size:=(Array.getElem?_eq_some_iff.1 I3).1
  clear b3 H2b G2b I2 i0 i1 il CG q2
  go_wp2_with fail
  have TT:Hid (Told w ((w3.alloc (.cells #[.string ⟨nm.toArray⟩,.int .i64 d,.int .i64 a,.int .i64 b,.int .i32 m,.bool true] 104)).alloc (.cells #[.string ⟨nm.toArray⟩,.int .i64 d,.int .i64 a,.int .i64 b,.int .i32 m] 52)) c s (w3.heap.size+1) bg nm d a b m x):=by
    refine⟨H3.out.below box2,(G3.out.alloc _).alloc _,?_,z0f I3 box2,by omega,nbg⟩
    have:=z0g (w3.alloc (.cells #[.string ⟨nm.toArray⟩,.int .i64 d,.int .i64 a,.int .i64 b,.int .i32 m,.bool true] 104)) (.cells #[.string ⟨nm.toArray⟩,.int .i64 d,.int .i64 a,.int .i64 b,.int .i32 m] 52)
    rwa [World.size_alloc] at this
  have TO:Hid (((w3.alloc (.cells #[.string ⟨nm.toArray⟩,.int .i64 d,.int .i64 a,.int .i64 b,.int .i32 m,.bool true] 104)).alloc (.cells #[.string ⟨nm.toArray⟩,.int .i64 d,.int .i64 a,.int .i64 b,.int .i32 m] 52)).heap[w3.heap.size]?=some (.cells #[.string ⟨nm.toArray⟩,.int .i64 d,.int .i64 a,.int .i64 b,.int .i32 m,.bool true] 104)):=z0m ((Below.refl _ _).alloc (Nat.le_refl _) _)
  clear H3 G3 I3 nbg
  generalize (w3.alloc (.cells #[.string ⟨nm.toArray⟩,.int .i64 d,.int .i64 a,.int .i64 b,.int .i32 m,.bool true] 104)).alloc (.cells #[.string ⟨nm.toArray⟩,.int .i64 d,.int .i64 a,.int .i64 b,.int .i32 m] 52)=V3 at *
  generalize w3.heap.size=bt at *
  refine Calls.mono (CK.out _) ?_
  rintro e w4 ⟨rfl,b4⟩
  have T4:Hid _:=TT.out.below b4
  have t5:=(z0a (z0f TO.out b4)).1 5 (.bool true) rfl
  have i0:=(z0a T4.out.ins).1 0 (.string ⟨nm.toArray⟩) rfl
  have i2:=(z0a T4.out.ins).1 2 (.int .i64 a) rfl
  have i3:=(z0a T4.out.ins).1 3 (.int .i64 b) rfl
  have i4:=(z0a T4.out.ins).1 4 (.int .i32 m) rfl
  have xa:=T4.out.core.x a hla
  have xb:=T4.out.core.x b hlb
  have c34:=T4.out.core.cell 34 (by decide)
  have e34:z0l s 34=.bool false:=by show Value.bool s.u=_;rw[hu']
  rw[e34] at c34
  clear b4 TT TO CK e34
  go_wp2_with fail
  --DBG
  go_quiet (fail)
  have T5:Hid _:=T4.out.below (z0u w4.heap.size w4 nq)
  have j0:=(z0a T5.out.ins).1 0 (.string ⟨nm.toArray⟩) rfl
  have j1:=(z0a T5.out.ins).1 1 (.int .i64 d) rfl
  have cr:=T5.out.core.x d hld
  have fr:=T5.out.core.free (1+d)
  clear T4 t5 i0 i2 i3 i4 xa xb c34 c33
  generalize w4.drewN nq=W5 at *
  generalize bt+1=bi at *
  have HMU0:U32 (m%4294967296):=⟨by omega,by omega⟩
  generalize hmu:m%4294967296=mu at *
  have HMU:Hid (m%4294967296=mu):=hmu
  have HMV:Hid (U32 mu):=HMU0
  clear hmu HMU0
  have hn:=HNM.out
  clear HNM
  subst hn
  · clear cr fr j1
    have c58:W5.cell? ⟨c,58,none⟩=some (.int .i64 s.t):=T5.out.core.cell 58 (by decide)
    have c59:W5.cell? ⟨c,59,none⟩=some (.bool s.set):=T5.out.core.cell 59 (by decide)
    have c60:W5.cell? ⟨c,60,none⟩=some (.int .i64 s.cmp):=T5.out.core.cell 60 (by decide)
    have f58:=T5.out.core.free 58
    have HD:Hid (wfiC s=z2k (if s.set&&decide (s.t<s.cmp) then { s with t:=s.cmp } else s) ((s.f 32+4)%4294967296) 1):=rfl
    by_cases hb:(s.set&&decide (s.t<s.cmp))=true
    · rw[hb,if_pos rfl] at HD
      obtain⟨h1,h2⟩:=Bool.and_eq_true_iff.1 hb
      rw[h1] at c59
      clear h1 hb
      have HC0:Hid (0≤s.cmp):=HF.out.c0
      have HC1:Hid (s.cmp≤1152921504606846976):=by have:=HF.out.c1;show _≤_;omega
      have H6:Hid (∀ nq,z0i ((W5.drewN nq).setCell ⟨c,58,none⟩ (.int .i64 s.cmp)) c { s with t:=s.cmp }):=fun nq=>(T5.out.core.below (z0u W5.heap.size W5 nq)).put 58 _ (fun j _=>cg_t s _ j)
      have G6 : Hid (∀ nq, Chg (· = c) w ((W5.drewN nq).setCell ⟨c, 58, none⟩ (.int .i64 s.cmp))) := fun nq => (T5.out.chg.step (z0u W5.heap.size W5 nq)).own _
      clear T5
      generalize hcm:s.cmp=cm at *
      generalize s.t=st at *
      go_wp2_with fail
      go_quiet (fail)
      go_wp2_with fail
      refine (z4l (H6.out _) _ 1 HC0.out HC1.out (by decide) (by decide)).mono ?_
      rintro e w7 ⟨rfl,h7,g7⟩
      have H7:Hid _:=h7
      have G7:Hid _:=(G6.out _).trans g7
      clear h7 g7
      go_wp2
      go_end0
      refine⟨rfl,?_⟩
      rw[insC_wfi,HD.out,HPC.out]
      exact z0x HM.out H7.out G7.out rfl rfl
    · rw[if_neg hb] at HD
      have T6:Hid (∀ nq,Told w (W5.drewN nq) c s bi bg [119,102,105] d a b m x):=fun nq=>T5.out.below (z0u W5.heap.size W5 nq)
      clear T5
      rcases (show s.set=false∨s.set=true by cases s.set <;> simp) with h1 | h1
      · rw[h1] at c59
        clear hb h1
        generalize hst:s.t=st at *
        generalize s.cmp=cm at *
        go_wp2_with fail
        go_quiet (fail)
        go_wp2_with fail
        refine (z4l (T6.out _).core _ 1 (by rw[hst];exact HT.out) (by rw[hst];exact HT'.out) (by decide) (by decide)).mono ?_
        rintro e w7 ⟨rfl,h7,g7⟩
        have H7:Hid _:=h7
        have G7:Hid _:=(T6.out _).chg.trans g7
        clear h7 g7
        go_wp2
        go_end0
        refine⟨rfl,?_⟩
        rw[insC_wfi,HD.out,HPC.out]
        exact z0x HM.out H7.out G7.out rfl rfl
      · rw[h1] at c59
        have h2:decide (s.t<s.cmp)=false:=by
          rw[h1] at hb
          simpa using hb
        clear hb h1
        generalize hst:s.t=st at *
        generalize s.cmp=cm at *
        go_wp2_with fail
        go_quiet (fail)
        go_wp2_with fail
        refine (z4l (T6.out _).core _ 1 (by rw[hst];exact HT.out) (by rw[hst];exact HT'.out) (by decide) (by decide)).mono ?_
        rintro e w7 ⟨rfl,h7,g7⟩
        have H7:Hid _:=h7
        have G7:Hid _:=(T6.out _).chg.trans g7
        clear h7 g7
        go_wp2
        go_end0
        refine⟨rfl,?_⟩
        rw[insC_wfi,HD.out,HPC.out]
        exact z0x HM.out H7.out G7.out rfl rfl
theorem mdo_odd {w:World} {c bm cap B:Nat} {s:CS} {l:List Int} {es:List Ev} (h:z1q w c bm cap B s l es) (hF:Fine s es) (hp:¬s.f 32%4=0) :
  Calls Tryz.prog 30 #[.pointer (some ⟨c,0,none⟩)] w fun e w'=>e=.returned (.tuple #[])∧Went w w' c bm cap B s (z1j s 0 (s.f 32),l,es):=by
 have HM:Hid _:=h
 have HF:Hid _:=hF
 have HT:Hid (0≤s.t):=hF.t0
 have HT':Hid (s.t≤1152921504606846976):=by have:=hF.t1;show _≤_;omega
 have c33:w.cell? ⟨c,33,none⟩=some (.int .u32 (s.f 32)):=h.core.cell 33 (by decide)
 have t4:(s.f 32).tmod 4=s.f 32%4:=Int.tmod_eq_emod_of_nonneg (hF.f 32).1
 have p4:(s.f 32%4 != 0)=true:=by simpa using hp
 clear h hF hp
 generalize hpc:s.f 32=pc at *
 have HPC:Hid (s.f 32=pc):=hpc
 clear hpc
 go_enter Tryz.func30,Tryz.ntmps30
 go_wp2_with fail
 refine (z3l HM.out.core HF.out.f 0 pc HT.out HT'.out).mono ?_
 rintro e w7 ⟨rfl,h7,g7⟩
 have H7:Hid _:=h7
 have G7:Hid _:=(Chg.refl _ w).trans g7
 clear h7 g7
 go_wp2
 refine bodyPost_ret (results_none rfl _ _ _) rfl ?_
 exact⟨rfl,z0x HM.out H7.out G7.out rfl rfl⟩
theorem mdo_shut {w:World} {c bm cap B:Nat} {s:CS} {l:List Int} {es:List Ev} (h:z1q w c bm cap B s l es) (hF:Fine s es) (hu:s.u=true) (hp:s.f 32%4=0) (hal:z2m (ofV (gw s.f)) (s.f 32) 4 2=false) :
  Calls Tryz.prog 30 #[.pointer (some ⟨c,0,none⟩)] w fun e w'=>e=.returned (.tuple #[])∧Went w w' c bm cap B s (z1j s 1 (s.f 32),l,es):=by
 have HM:Hid _:=h
 have HF:Hid _:=hF
 have HT:Hid (0≤s.t):=hF.t0
 have HT':Hid (s.t≤1152921504606846976):=by have:=hF.t1;show _≤_;omega
 have c33:=h.core.cell 33 (by decide)
 have e33:z0l s 33=.int .u32 (s.f 32):=rfl
 rw[e33] at c33
 have c34:=h.core.cell 34 (by decide)
 have e34:z0l s 34=.bool true:=by rw[← hu];rfl
 rw[e34] at c34
 have c0:=h.core.cell 0 (by decide)
 have e0:z0l s 0=.slice (some ⟨bm,0,none⟩) l.length cap:=h.mem.m
 rw[e0] at c0
 have t4:(s.f 32).tmod 4=s.f 32%4:=Int.tmod_eq_emod_of_nonneg (hF.f 32).1
 have p4:(s.f 32%4 != 0)=false:=by simpa using hp
 have HG:Hid (∀ i,U32 (gw s.f i)):=fun i=>HF.out.f _
 have HP:Hid (U32 (s.f 32)):=hF.f 32
 have HAL:Hid _:=hal
 have RG:Hid _:=z1x h.core
 clear hal
 generalize hpc:s.f 32=pc at *
 have HPC:Hid (s.f 32=pc):=hpc
 clear h hF hp hpc hu e33 e34 e0 c0
 go_enter Tryz.func30,Tryz.ntmps30
 go_wp2_with (first | (refine z0w (by rfl) 30 (.tmp 30) rfl c 42 rfl (z2n (gw s.f)) _ RG.out z7e rfl (by rw[z1r];exact z4r) ?_))
 refine (rOf _ HG.out _).mono ?_
 rintro e v4 ⟨g,cg,rfl,-,-,hcg,hreg,b4⟩
 have B4:Hid _:=b4
 have RR:Hid _:=hreg
 clear hreg b4 hcg RG
 go_wp2_with fail
 refine (z6a RR.out (z8q HG.out) 8 cg rfl (by decide) pc 4 2 HP.out ⟨by decide,by decide⟩).mono ?_
 rintro e v5 ⟨rfl,b5⟩
 rw[HAL.out]
 have B5:Hid (Below w.heap.size w v5):=z0e B4.out b5
 clear b5 B4 RR HAL
 have M5:Hid (z0i v5 c s):=HM.out.core.below B5.out
 clear c33 c34
 go_wp2_with fail
 refine (z3l M5.out HF.out.f 1 pc HT.out HT'.out).mono ?_
 rintro e w7 ⟨rfl,h7,g7⟩
 have H7:Hid _:=h7
 have G7:Hid _:=(Chg.of B5.out).trans g7
 clear h7 g7
 go_wp2
 refine bodyPost_ret (results_none rfl _ _ _) rfl ?_
 exact⟨rfl,z0x HM.out H7.out G7.out rfl rfl⟩
theorem mdo_out_false {w : World} {c bm cap B : Nat} {s : CS} {l : List Int} {es : List Ev} (h : z1q w c bm cap B s l es) (hF : Fine s es) (hu : s.u = false) (hp : s.f 32 % 4 = 0) (ha : askV l.length (s.f 32) 4 = 2) :
    Calls Tryz.prog 30 #[.pointer (some ⟨c,0,none⟩)] w fun e w'=>e=.returned (.tuple #[])∧Went w w' c bm cap B s (z1j s 1 (s.f 32),l,es):=by
  have HM:Hid _:=h
  have HF:Hid _:=hF
  have HT:Hid (0≤s.t):=hF.t0
  have HT':Hid (s.t≤1152921504606846976):=by have:=hF.t1;show _≤_;omega
  have c33:=h.core.cell 33 (by decide)
  have e33:z0l s 33=.int .u32 (s.f 32):=rfl
  rw[e33] at c33
  have c34:=h.core.cell 34 (by decide)
  have e34:z0l s 34=.bool false:=by rw[← hu];rfl
  rw[e34] at c34
  have c0:=h.core.cell 0 (by decide)
  have e0:z0l s 0=.slice (some ⟨bm,0,none⟩) l.length cap:=h.mem.m
  rw[e0] at c0
  have t4:(s.f 32).tmod 4=s.f 32%4:=Int.tmod_eq_emod_of_nonneg (hF.f 32).1
  have p4:(s.f 32%4 != 0)=false:=by simpa using hp
  have CL:Hid _:=fun W hm hl=>z6p bm l.length cap l (s.f 32) 4 false h.mem.len (hF.f 32) h.mem.u W hm hl
  rw[ha] at CL
  generalize z2r l.length l (s.f 32) 4 false=N at *
  generalize hpc:s.f 32=pc at *
  have HPC:Hid (s.f 32=pc):=hpc
  clear h hF hp ha hpc hu e33 e34 e0
  go_enter Tryz.func30,Tryz.ntmps30
  go_wp2_with fail
  refine Calls.mono (CL.out w HM.out.mem.mem HM.out.mem.lt) ?_
  rintro e w2 ⟨rfl,b2⟩
  have H2:Hid (z0i w2 c s):=HM.out.core.below b2
  have G2 : Hid (Chg (· = c) w w2) := Chg.of b2
  clear c33 c34
  clear CL b2 c0
  have H2b:Hid (z0i (w2.alloc (.cells #[.int .u32 N,.int .i64 2] 81)) c s):=H2.out.below ((Below.refl _ _).alloc (Nat.le_refl _) _)
  have G2b : Hid (Chg (· = c) w (w2.alloc (.cells #[.int .u32 N, .int .i64 2] 81))) := G2.out.alloc _
  clear H2 G2
  go_wp2_with fail
  refine (z3l H2b.out HF.out.f 1 pc HT.out HT'.out).mono ?_
  rintro e w7 ⟨rfl,h7,g7⟩
  have H7:Hid _:=h7
  have G7:Hid _:=G2b.out.trans g7
  clear h7 g7
  go_wp2
  refine bodyPost_ret (results_none rfl _ _ _) rfl ?_
  exact⟨rfl,z0x HM.out H7.out G7.out rfl rfl⟩
theorem mdo_out_true {w : World} {c bm cap B : Nat} {s : CS} {l : List Int} {es : List Ev} (h : z1q w c bm cap B s l es) (hF : Fine s es) (hu : s.u = true) (hp : s.f 32 % 4 = 0) (hal : z2m (ofV (gw s.f)) (s.f 32) 4 2 = true) (ha : askV l.length (s.f 32) 4 = 2) :
    Calls Tryz.prog 30 #[.pointer (some ⟨c,0,none⟩)] w fun e w'=>e=.returned (.tuple #[])∧Went w w' c bm cap B s (z1j s 1 (s.f 32),l,es):=by
  have HM:Hid _:=h
  have HF:Hid _:=hF
  have HT:Hid (0≤s.t):=hF.t0
  have HT':Hid (s.t≤1152921504606846976):=by have:=hF.t1;show _≤_;omega
  have c33:=h.core.cell 33 (by decide)
  have e33:z0l s 33=.int .u32 (s.f 32):=rfl
  rw[e33] at c33
  have c34:=h.core.cell 34 (by decide)
  have e34:z0l s 34=.bool true:=by rw[← hu];rfl
  rw[e34] at c34
  have c0:=h.core.cell 0 (by decide)
  have e0:z0l s 0=.slice (some ⟨bm,0,none⟩) l.length cap:=h.mem.m
  rw[e0] at c0
  have t4:(s.f 32).tmod 4=s.f 32%4:=Int.tmod_eq_emod_of_nonneg (hF.f 32).1
  have p4:(s.f 32%4 != 0)=false:=by simpa using hp
  have CL:Hid _:=fun W hm hl=>z6p bm l.length cap l (s.f 32) 4 false h.mem.len (hF.f 32) h.mem.u W hm hl
  rw[ha] at CL
  generalize z2r l.length l (s.f 32) 4 false=N at *
  have HG:Hid (∀ i,U32 (gw s.f i)):=fun i=>HF.out.f _
  have HP:Hid (U32 (s.f 32)):=hF.f 32
  have HAL:Hid _:=hal
  have RG:Hid _:=z1x h.core
  clear hal
  generalize hpc:s.f 32=pc at *
  have HPC:Hid (s.f 32=pc):=hpc
  clear h hF hp ha hpc hu e33 e34 e0
  go_enter Tryz.func30,Tryz.ntmps30
  go_wp2_with (first | (refine z0w (by rfl) 30 (.tmp 30) rfl c 42 rfl (z2n (gw s.f)) _ RG.out z7e rfl (by rw[z1r];exact z4r) ?_))
  refine (rOf _ HG.out _).mono ?_
  rintro e v4 ⟨g,cg,rfl,-,-,hcg,hreg,b4⟩
  have B4:Hid _:=b4
  have RR:Hid _:=hreg
  clear hreg b4 hcg RG
  go_wp2_with fail
  refine (z6a RR.out (z8q HG.out) 8 cg rfl (by decide) pc 4 2 HP.out ⟨by decide,by decide⟩).mono ?_
  rintro e v5 ⟨rfl,b5⟩
  rw[HAL.out]
  have B5:Hid (Below w.heap.size w v5):=z0e B4.out b5
  clear b5 B4 RR HAL
  have M5:Hid (z0i v5 c s):=HM.out.core.below B5.out
  have N5:Hid _:=HM.out.mem.on (Chg.of B5.out) rfl
  have c0:=M5.out.cell 0 (by decide)
  have e0:z0l s 0=.slice (some ⟨bm,0,none⟩) l.length cap:=HM.out.mem.m
  rw[e0] at c0
  clear c33 c34 e0
  go_wp2_with fail
  refine Calls.mono (CL.out v5 N5.out.mem N5.out.lt) ?_
  rintro e w2 ⟨rfl,b2⟩
  have H2:Hid (z0i w2 c s):=M5.out.below b2
  have G2 : Hid (Chg (· = c) w w2) := (Chg.of B5.out).step b2
  clear CL b2 c0
  have H2b:Hid (z0i (w2.alloc (.cells #[.int .u32 N,.int .i64 2] 81)) c s):=H2.out.below ((Below.refl _ _).alloc (Nat.le_refl _) _)
  have G2b : Hid (Chg (· = c) w (w2.alloc (.cells #[.int .u32 N, .int .i64 2] 81))) := G2.out.alloc _
  clear H2 G2
  go_wp2_with fail
  refine (z3l H2b.out HF.out.f 1 pc HT.out HT'.out).mono ?_
  rintro e w7 ⟨rfl,h7,g7⟩
  have H7:Hid _:=h7
  have G7:Hid _:=G2b.out.trans g7
  clear h7 g7
  go_wp2
  refine bodyPost_ret (results_none rfl _ _ _) rfl ?_
  exact⟨rfl,z0x HM.out H7.out G7.out rfl rfl⟩
theorem mdo_none_false {w : World} {c bm cap B : Nat} {s : CS} {l : List Int} {es : List Ev} (h : z1q w c bm cap B s l es) (hF : Fine s es) (hu : s.u = false) (hp : s.f 32 % 4 = 0) (ha : askV l.length (s.f 32) 4 = 0) (x : Int) (hx : z1l l (s.f 32) 4 false = x) (hg : getV (z1l l (s.f 32) 4 false) = none) :
    Calls Tryz.prog 30 #[.pointer (some ⟨c,0,none⟩)] w fun e w'=>e=.returned (.tuple #[])∧Went w w' c bm cap B s (z1j s 2 x,l,es):=by
  have HM:Hid _:=h
  have HF:Hid _:=hF
  have HT:Hid (0≤s.t):=hF.t0
  have HT':Hid (s.t≤1152921504606846976):=by have:=hF.t1;show _≤_;omega
  have c33:=h.core.cell 33 (by decide)
  have e33:z0l s 33=.int .u32 (s.f 32):=rfl
  rw[e33] at c33
  have c34:=h.core.cell 34 (by decide)
  have e34:z0l s 34=.bool false:=by rw[← hu];rfl
  rw[e34] at c34
  have c0:=h.core.cell 0 (by decide)
  have e0:z0l s 0=.slice (some ⟨bm,0,none⟩) l.length cap:=h.mem.m
  rw[e0] at c0
  have t4:(s.f 32).tmod 4=s.f 32%4:=Int.tmod_eq_emod_of_nonneg (hF.f 32).1
  have p4:(s.f 32%4 != 0)=false:=by simpa using hp
  have CL:Hid _:=fun W hm hl=>z6p bm l.length cap l (s.f 32) 4 false h.mem.len (hF.f 32) h.mem.u W hm hl
  rw[ha,z2p ha] at CL
  have CG:Hid _:=rGetN (z2l l (s.f 32) 4) hg
  have CK:Hid _:=z3j []
  generalize (z0q []).k=kk at *
  have HX:Hid (z1l l (s.f 32) 4 false=x):=hx
  rw[hx] at CL CG
  generalize hpc:s.f 32=pc at *
  have HPC:Hid (s.f 32=pc):=hpc
  clear h hF hp ha hg hx hpc hu e33 e34 e0
  go_enter Tryz.func30,Tryz.ntmps30
  go_wp2_with fail
  refine Calls.mono (CL.out w HM.out.mem.mem HM.out.mem.lt) ?_
  rintro e w2 ⟨rfl,b2⟩
  have H2:Hid (z0i w2 c s):=HM.out.core.below b2
  have G2 : Hid (Chg (· = c) w w2) := Chg.of b2
  clear CL b2 c0
  have q2:c<w2.heap.size:=H2.out.lt
  have H2b:Hid (z0i (w2.alloc (.cells #[.int .u32 x,.int .i64 0] 81)) c s):=H2.out.below ((Below.refl _ _).alloc (Nat.le_refl _) _)
  have G2b : Hid (Chg (· = c) w (w2.alloc (.cells #[.int .u32 x, .int .i64 0] 81))) := G2.out.alloc _
  have I2:=z0g w2 (.cells #[.int .u32 x,.int .i64 0] 81)
  obtain⟨ic,_,il⟩:=z0a I2
  have i0:=ic 0 (.int .u32 x) rfl
  have i1:=ic 1 (.int .i64 0) rfl
  clear H2 G2 ic
  go_wp2_with fail
  generalize w2.alloc (.cells #[.int .u32 x,.int .i64 0] 81)=V2 at *
  have nbg:w2.heap.size≠c:=by omega
  generalize w2.heap.size=bg at *
  refine Calls.mono (CG.out _) ?_
  rintro e w3 ⟨rfl,b3⟩
  have H3:Hid (z0i w3 c s):=H2b.out.below b3
  have G3 : Hid (Chg (· = c) w w3) := G2b.out.step b3
  have I3:=z0f I2 b3
  have q3:c<w3.heap.size:=H3.out.lt
  have q3':bg<w3.heap.size:=(Array.getElem?_eq_some_iff.1 I3).1
  clear b3 H2b G2b I2 i0 i1 il CG q2
  go_wp2_with fail
  have H4:Hid (z0i ((w3.alloc (.cells #[.string ⟨#[]⟩,.int .i64 0,.int .i64 0,.int .i64 0,.int .i32 0,.bool false] 104)).alloc (.cells #[.string ⟨#[]⟩,.int .i64 0,.int .i64 0,.int .i64 0,.int .i32 0] 52)) c s):=H3.out.below box2
  have G4 : Hid (Chg (· = c) w ((w3.alloc (.cells #[.string ⟨#[]⟩, .int .i64 0, .int .i64 0, .int .i64 0, .int .i32 0, .bool false] 104)).alloc (.cells #[.string ⟨#[]⟩, .int .i64 0, .int .i64 0, .int .i64 0, .int .i32 0] 52))) := (G3.out.alloc _).alloc _
  have I4:Hid (((w3.alloc (.cells #[.string ⟨#[]⟩,.int .i64 0,.int .i64 0,.int .i64 0,.int .i32 0,.bool false] 104)).alloc (.cells #[.string ⟨#[]⟩,.int .i64 0,.int .i64 0,.int .i64 0,.int .i32 0] 52)).heap[bg]?=some (.cells #[.int .u32 x,.int .i64 0] 81)):=z0f I3 box2
  have TO:Hid (((w3.alloc (.cells #[.string ⟨#[]⟩,.int .i64 0,.int .i64 0,.int .i64 0,.int .i32 0,.bool false] 104)).alloc (.cells #[.string ⟨#[]⟩,.int .i64 0,.int .i64 0,.int .i64 0,.int .i32 0] 52)).heap[w3.heap.size]?=some (.cells #[.string ⟨#[]⟩,.int .i64 0,.int .i64 0,.int .i64 0,.int .i32 0,.bool false] 104)):=z0m ((Below.refl _ _).alloc (Nat.le_refl _) _)
  clear H3 G3 I3 nbg
  generalize ((w3.alloc (.cells #[.string ⟨#[]⟩,.int .i64 0,.int .i64 0,.int .i64 0,.int .i32 0,.bool false] 104)).alloc (.cells #[.string ⟨#[]⟩,.int .i64 0,.int .i64 0,.int .i64 0,.int .i32 0] 52))=V3 at *
  generalize w3.heap.size=bt at *
  refine Calls.mono (CK.out _) ?_
  rintro e w4 ⟨rfl,b4⟩
  have H5:Hid _:=H4.out.below b4
  have G5:Hid _:=G4.out.step b4
  have t5:=(z0a (z0f TO.out b4)).1 5 (.bool false) rfl
  have g0:=(z0a (z0f I4.out b4)).1 0 (.int .u32 x) rfl
  clear b4 TO CK H4 G4 I4
  go_wp2_with fail
  refine (z3l H5.out HF.out.f 2 x HT.out HT'.out).mono ?_
  rintro e w7 ⟨rfl,h7,g7⟩
  have H7:Hid _:=h7
  have G7:Hid _:=G5.out.trans g7
  clear h7 g7
  go_wp2
  refine bodyPost_ret (results_none rfl _ _ _) rfl ?_
  exact⟨rfl,z0x HM.out H7.out G7.out rfl rfl⟩
theorem mdo_none_true {w : World} {c bm cap B : Nat} {s : CS} {l : List Int} {es : List Ev} (h : z1q w c bm cap B s l es) (hF : Fine s es) (hu : s.u = true) (hp : s.f 32 % 4 = 0) (hal : z2m (ofV (gw s.f)) (s.f 32) 4 2 = true) (ha : askV l.length (s.f 32) 4 = 0) (x : Int) (hx : z1l l (s.f 32) 4 false = x) (hg : getV (z1l l (s.f 32) 4 false) = none) :
    Calls Tryz.prog 30 #[.pointer (some ⟨c,0,none⟩)] w fun e w'=>e=.returned (.tuple #[])∧Went w w' c bm cap B s (z1j s 2 x,l,es):=by
  have HM:Hid _:=h
  have HF:Hid _:=hF
  have HT:Hid (0≤s.t):=hF.t0
  have HT':Hid (s.t≤1152921504606846976):=by have:=hF.t1;show _≤_;omega
  have c33:=h.core.cell 33 (by decide)
  have e33:z0l s 33=.int .u32 (s.f 32):=rfl
  rw[e33] at c33
  have c34:=h.core.cell 34 (by decide)
  have e34:z0l s 34=.bool true:=by rw[← hu];rfl
  rw[e34] at c34
  have c0:=h.core.cell 0 (by decide)
  have e0:z0l s 0=.slice (some ⟨bm,0,none⟩) l.length cap:=h.mem.m
  rw[e0] at c0
  have t4:(s.f 32).tmod 4=s.f 32%4:=Int.tmod_eq_emod_of_nonneg (hF.f 32).1
  have p4:(s.f 32%4 != 0)=false:=by simpa using hp
  have CL:Hid _:=fun W hm hl=>z6p bm l.length cap l (s.f 32) 4 false h.mem.len (hF.f 32) h.mem.u W hm hl
  rw[ha,z2p ha] at CL
  have CG:Hid _:=rGetN (z2l l (s.f 32) 4) hg
  have CK:Hid _:=z3j []
  have HG:Hid (∀ i,U32 (gw s.f i)):=fun i=>HF.out.f _
  have HP:Hid (U32 (s.f 32)):=hF.f 32
  have HAL:Hid _:=hal
  have RG:Hid _:=z1x h.core
  clear hal
  generalize (z0q []).k=kk at *
  have HX:Hid (z1l l (s.f 32) 4 false=x):=hx
  rw[hx] at CL CG
  generalize hpc:s.f 32=pc at *
  have HPC:Hid (s.f 32=pc):=hpc
  clear h hF hp ha hg hx hpc hu e33 e34 e0
  go_enter Tryz.func30,Tryz.ntmps30
  go_wp2_with (first | (refine z0w (by rfl) 30 (.tmp 30) rfl c 42 rfl (z2n (gw s.f)) _ RG.out z7e rfl (by rw[z1r];exact z4r) ?_))
  refine (rOf _ HG.out _).mono ?_
  rintro e v4 ⟨g,cg,rfl,-,-,hcg,hreg,b4⟩
  have B4:Hid _:=b4
  have RR:Hid _:=hreg
  clear hreg b4 hcg RG
  go_wp2_with fail
  refine (z6a RR.out (z8q HG.out) 8 cg rfl (by decide) pc 4 2 HP.out ⟨by decide,by decide⟩).mono ?_
  rintro e v5 ⟨rfl,b5⟩
  rw[HAL.out]
  have B5:Hid (Below w.heap.size w v5):=z0e B4.out b5
  clear b5 B4 RR HAL
  have M5:Hid (z0i v5 c s):=HM.out.core.below B5.out
  have N5:Hid _:=HM.out.mem.on (Chg.of B5.out) rfl
  have c0:=M5.out.cell 0 (by decide)
  have e0:z0l s 0=.slice (some ⟨bm,0,none⟩) l.length cap:=HM.out.mem.m
  rw[e0] at c0
  clear c33 c34 e0
  go_wp2_with fail
  refine Calls.mono (CL.out v5 N5.out.mem N5.out.lt) ?_
  rintro e w2 ⟨rfl,b2⟩
  have H2:Hid (z0i w2 c s):=M5.out.below b2
  have G2 : Hid (Chg (· = c) w w2) := (Chg.of B5.out).step b2
  clear M5 N5 B5
  clear CL b2 c0
  have q2:c<w2.heap.size:=H2.out.lt
  have H2b:Hid (z0i (w2.alloc (.cells #[.int .u32 x,.int .i64 0] 81)) c s):=H2.out.below ((Below.refl _ _).alloc (Nat.le_refl _) _)
  have G2b : Hid (Chg (· = c) w (w2.alloc (.cells #[.int .u32 x, .int .i64 0] 81))) := G2.out.alloc _
  have I2:=z0g w2 (.cells #[.int .u32 x,.int .i64 0] 81)
  obtain⟨ic,_,il⟩:=z0a I2
  have i0:=ic 0 (.int .u32 x) rfl
  have i1:=ic 1 (.int .i64 0) rfl
  clear H2 G2 ic
  go_wp2_with fail
  generalize w2.alloc (.cells #[.int .u32 x,.int .i64 0] 81)=V2 at *
  have nbg:w2.heap.size≠c:=by omega
  generalize w2.heap.size=bg at *
  refine Calls.mono (CG.out _) ?_
  rintro e w3 ⟨rfl,b3⟩
  have H3:Hid (z0i w3 c s):=H2b.out.below b3
  have G3 : Hid (Chg (· = c) w w3) := G2b.out.step b3
  have I3:=z0f I2 b3
  have q3:c<w3.heap.size:=H3.out.lt
  have q3':bg<w3.heap.size:=(Array.getElem?_eq_some_iff.1 I3).1
  clear b3 H2b G2b I2 i0 i1 il CG q2
  go_wp2_with fail
  have H4:Hid (z0i ((w3.alloc (.cells #[.string ⟨#[]⟩,.int .i64 0,.int .i64 0,.int .i64 0,.int .i32 0,.bool false] 104)).alloc (.cells #[.string ⟨#[]⟩,.int .i64 0,.int .i64 0,.int .i64 0,.int .i32 0] 52)) c s):=H3.out.below box2
  have G4 : Hid (Chg (· = c) w ((w3.alloc (.cells #[.string ⟨#[]⟩, .int .i64 0, .int .i64 0, .int .i64 0, .int .i32 0, .bool false] 104)).alloc (.cells #[.string ⟨#[]⟩, .int .i64 0, .int .i64 0, .int .i64 0, .int .i32 0] 52))) := (G3.out.alloc _).alloc _
  have I4:Hid (((w3.alloc (.cells #[.string ⟨#[]⟩,.int .i64 0,.int .i64 0,.int .i64 0,.int .i32 0,.bool false] 104)).alloc (.cells #[.string ⟨#[]⟩,.int .i64 0,.int .i64 0,.int .i64 0,.int .i32 0] 52)).heap[bg]?=some (.cells #[.int .u32 x,.int .i64 0] 81)):=z0f I3 box2
  have TO:Hid (((w3.alloc (.cells #[.string ⟨#[]⟩,.int .i64 0,.int .i64 0,.int .i64 0,.int .i32 0,.bool false] 104)).alloc (.cells #[.string ⟨#[]⟩,.int .i64 0,.int .i64 0,.int .i64 0,.int .i32 0] 52)).heap[w3.heap.size]?=some (.cells #[.string ⟨#[]⟩,.int .i64 0,.int .i64 0,.int .i64 0,.int .i32 0,.bool false] 104)):=z0m ((Below.refl _ _).alloc (Nat.le_refl _) _)
  clear H3 G3 I3 nbg
  generalize ((w3.alloc (.cells #[.string ⟨#[]⟩,.int .i64 0,.int .i64 0,.int .i64 0,.int .i32 0,.bool false] 104)).alloc (.cells #[.string ⟨#[]⟩,.int .i64 0,.int .i64 0,.int .i64 0,.int .i32 0] 52))=V3 at *
  generalize w3.heap.size=bt at *
  refine Calls.mono (CK.out _) ?_
  rintro e w4 ⟨rfl,b4⟩
  have H5:Hid _:=H4.out.below b4
  have G5:Hid _:=G4.out.step b4
  have t5:=(z0a (z0f TO.out b4)).1 5 (.bool false) rfl
  have g0:=(z0a (z0f I4.out b4)).1 0 (.int .u32 x) rfl
  clear b4 TO CK H4 G4 I4
  go_wp2_with fail
  refine (z3l H5.out HF.out.f 2 x HT.out HT'.out).mono ?_
  rintro e w7 ⟨rfl,h7,g7⟩
  have H7:Hid _:=h7
  have G7:Hid _:=G5.out.trans g7
  clear h7 g7
  go_wp2
  refine bodyPost_ret (results_none rfl _ _ _) rfl ?_
  exact⟨rfl,z0x HM.out H7.out G7.out rfl rfl⟩
theorem mdo_bar_c {w : World} {c bm cap B : Nat} {s : CS} {l : List Int} {es : List Ev} (h : z1q w c bm cap B s l es) (hF : Fine s es) (hu : s.u = true) (hp : s.f 32 % 4 = 0) (hal : z2m (ofV (gw s.f)) (s.f 32) 4 2 = true) (ha : askV l.length (s.f 32) 4 = 0) (nm : List UInt8) (d a b : Nat) (m x : Int) (hx : z1l l (s.f 32) 4 false = x) (hg : getV (z1l l (s.f 32) 4 false) = some ⟨nm, d, a, b, m⟩) (hla : a < 32) (hlb : b < 32) (hld : d < 32) (hk67 : (z0q nm).k = 67) :
    Calls Tryz.prog 30 #[.pointer (some ⟨c,0,none⟩)] w fun e w'=>e=.returned (.tuple #[])∧Went w w' c bm cap B s (z1j s 2 x,l,es):=by
  have hu':=hu
  have HM:Hid _:=h
  have HF:Hid _:=hF
  have HT:Hid (0≤s.t):=hF.t0
  have HT':Hid (s.t≤1152921504606846976):=by have:=hF.t1;show _≤_;omega
  have c33:=h.core.cell 33 (by decide)
  have e33:z0l s 33=.int .u32 (s.f 32):=rfl
  rw[e33] at c33
  have c34:=h.core.cell 34 (by decide)
  have e34:z0l s 34=.bool true:=by rw[← hu];rfl
  rw[e34] at c34
  have c0:=h.core.cell 0 (by decide)
  have e0:z0l s 0=.slice (some ⟨bm,0,none⟩) l.length cap:=h.mem.m
  rw[e0] at c0
  have t4:(s.f 32).tmod 4=s.f 32%4:=Int.tmod_eq_emod_of_nonneg (hF.f 32).1
  have p4:(s.f 32%4 != 0)=false:=by simpa using hp
  have CL:Hid _:=fun W hm hl=>z6p bm l.length cap l (s.f 32) 4 false h.mem.len (hF.f 32) h.mem.u W hm hl
  rw[ha,z2p ha] at CL
  have CG:Hid _:=z8g (z2l l (s.f 32) 4) hg
  have CK:Hid _:=z3j nm
  have HG:Hid (∀ i,U32 (gw s.f i)):=fun i=>HF.out.f _
  have HP:Hid (U32 (s.f 32)):=hF.f 32
  have HAL:Hid _:=hal
  have k67:((z0q nm).k==67)=true:=by simpa using hk67
  clear hk67
  have RG:Hid _:=z1x h.core
  clear hal
  generalize (z0q nm).k=kk at *
  have HX:Hid (z1l l (s.f 32) 4 false=x):=hx
  rw[hx] at CL CG
  generalize hpc:s.f 32=pc at *
  have HPC:Hid (s.f 32=pc):=hpc
  have ha0:(0:Int)≤(a:Int):=by omega
  have ha1:(a:Int)<32:=by omega
  have hb0:(0:Int)≤(b:Int):=by omega
  have hb1:(b:Int)<32:=by omega
  have hd0:(0:Int)≤(d:Int):=by omega
  have hd1:(d:Int)<32:=by omega
  clear h hF hp ha hg hx hpc hu e33 e34 e0
  go_enter Tryz.func30,Tryz.ntmps30
  go_wp2_with (first | (refine z0w (by rfl) 30 (.tmp 30) rfl c 42 rfl (z2n (gw s.f)) _ RG.out z7e rfl (by rw[z1r];exact z4r) ?_))
  refine (rOf _ HG.out _).mono ?_
  rintro e v4 ⟨g,cg,rfl,-,-,hcg,hreg,b4⟩
  have B4:Hid _:=b4
  have RR:Hid _:=hreg
  clear hreg b4 hcg RG
  go_wp2_with fail
  refine (z6a RR.out (z8q HG.out) 8 cg rfl (by decide) pc 4 2 HP.out ⟨by decide,by decide⟩).mono ?_
  rintro e v5 ⟨rfl,b5⟩
  rw[HAL.out]
  have B5:Hid (Below w.heap.size w v5):=z0e B4.out b5
  clear b5 B4 RR HAL
  have M5:Hid (z0i v5 c s):=HM.out.core.below B5.out
  have N5:Hid _:=HM.out.mem.on (Chg.of B5.out) rfl
  have c0:=M5.out.cell 0 (by decide)
  have e0:z0l s 0=.slice (some ⟨bm,0,none⟩) l.length cap:=HM.out.mem.m
  rw[e0] at c0
  clear c33 c34 e0
  go_wp2_with fail
  refine Calls.mono (CL.out v5 N5.out.mem N5.out.lt) ?_
  rintro e w2 ⟨rfl,b2⟩
  have H2:Hid (z0i w2 c s):=M5.out.below b2
  have G2 : Hid (Chg (· = c) w w2) := (Chg.of B5.out).step b2
  clear M5 N5 B5
  clear CL b2 c0
  have q2:c<w2.heap.size:=H2.out.lt
  have H2b:Hid (z0i (w2.alloc (.cells #[.int .u32 x,.int .i64 0] 81)) c s):=H2.out.below ((Below.refl _ _).alloc (Nat.le_refl _) _)
  have G2b : Hid (Chg (· = c) w (w2.alloc (.cells #[.int .u32 x, .int .i64 0] 81))) := G2.out.alloc _
  have I2:=z0g w2 (.cells #[.int .u32 x,.int .i64 0] 81)
  obtain⟨ic,_,il⟩:=z0a I2
  have i0:=ic 0 (.int .u32 x) rfl
  have i1:=ic 1 (.int .i64 0) rfl
  clear H2 G2 ic
  go_wp2_with fail
  generalize w2.alloc (.cells #[.int .u32 x,.int .i64 0] 81)=V2 at *
  have nbg:w2.heap.size≠c:=by omega
  generalize w2.heap.size=bg at *
  refine Calls.mono (CG.out _) ?_
  rintro e w3 ⟨rfl,b3⟩
  have H3:Hid (z0i w3 c s):=H2b.out.below b3
  have G3 : Hid (Chg (· = c) w w3) := G2b.out.step b3
  have I3:=z0f I2 b3
  have q3:c<w3.heap.size:=H3.out.lt
  have q3':bg<w3.heap.size:=(Array.getElem?_eq_some_iff.1 I3).1
  clear b3 H2b G2b I2 i0 i1 il CG q2
  go_wp2_with fail
  have TT:Hid (Told w ((w3.alloc (.cells #[.string ⟨nm.toArray⟩,.int .i64 d,.int .i64 a,.int .i64 b,.int .i32 m,.bool true] 104)).alloc (.cells #[.string ⟨nm.toArray⟩,.int .i64 d,.int .i64 a,.int .i64 b,.int .i32 m] 52)) c s (w3.heap.size+1) bg nm d a b m x):=by
    refine⟨H3.out.below box2,(G3.out.alloc _).alloc _,?_,z0f I3 box2,by omega,nbg⟩
    have:=z0g (w3.alloc (.cells #[.string ⟨nm.toArray⟩,.int .i64 d,.int .i64 a,.int .i64 b,.int .i32 m,.bool true] 104)) (.cells #[.string ⟨nm.toArray⟩,.int .i64 d,.int .i64 a,.int .i64 b,.int .i32 m] 52)
    rwa [World.size_alloc] at this
  have TO:Hid (((w3.alloc (.cells #[.string ⟨nm.toArray⟩,.int .i64 d,.int .i64 a,.int .i64 b,.int .i32 m,.bool true] 104)).alloc (.cells #[.string ⟨nm.toArray⟩,.int .i64 d,.int .i64 a,.int .i64 b,.int .i32 m] 52)).heap[w3.heap.size]?=some (.cells #[.string ⟨nm.toArray⟩,.int .i64 d,.int .i64 a,.int .i64 b,.int .i32 m,.bool true] 104)):=z0m ((Below.refl _ _).alloc (Nat.le_refl _) _)
  clear H3 G3 I3 nbg
  generalize (w3.alloc (.cells #[.string ⟨nm.toArray⟩,.int .i64 d,.int .i64 a,.int .i64 b,.int .i32 m,.bool true] 104)).alloc (.cells #[.string ⟨nm.toArray⟩,.int .i64 d,.int .i64 a,.int .i64 b,.int .i32 m] 52)=V3 at *
  generalize w3.heap.size=bt at *
  refine Calls.mono (CK.out _) ?_
  rintro e w4 ⟨rfl,b4⟩
  have T4:Hid _:=TT.out.below b4
  have t5:=(z0a (z0f TO.out b4)).1 5 (.bool true) rfl
  have i0:=(z0a T4.out.ins).1 0 (.string ⟨nm.toArray⟩) rfl
  have g0:=(z0a T4.out.got).1 0 (.int .u32 x) rfl
  have c34:=T4.out.core.cell 34 (by decide)
  have e34:z0l s 34=.bool true:=by show Value.bool s.u=_;rw[hu']
  rw[e34] at c34
  clear b4 TT TO CK e34
  go_wp2_with fail
  refine (z3l T4.out.core HF.out.f 2 x HT.out HT'.out).mono ?_
  rintro e w7 ⟨rfl,h7,g7⟩
  have H7:Hid _:=h7
  have G7:Hid _:=T4.out.chg.trans g7
  clear h7 g7
  go_wp2
  refine bodyPost_ret (results_none rfl _ _ _) rfl ?_
  exact⟨rfl,z0x HM.out H7.out G7.out rfl rfl⟩
theorem mdo_bar_m {w : World} {c bm cap B : Nat} {s : CS} {l : List Int} {es : List Ev} (h : z1q w c bm cap B s l es) (hF : Fine s es) (hu : s.u = true) (hp : s.f 32 % 4 = 0) (hal : z2m (ofV (gw s.f)) (s.f 32) 4 2 = true) (ha : askV l.length (s.f 32) 4 = 0) (nm : List UInt8) (d a b : Nat) (m x : Int) (hx : z1l l (s.f 32) 4 false = x) (hg : getV (z1l l (s.f 32) 4 false) = some ⟨nm, d, a, b, m⟩) (hla : a < 32) (hlb : b < 32) (hld : d < 32) (hk67 : ¬ (z0q nm).k = 67) (hnm : nm = [109, 114, 101, 116]) :
    Calls Tryz.prog 30 #[.pointer (some ⟨c,0,none⟩)] w fun e w'=>e=.returned (.tuple #[])∧Went w w' c bm cap B s (z1j s 2 x,l,es):=by
  have hu':=hu
  have HM:Hid _:=h
  have HF:Hid _:=hF
  have HT:Hid (0≤s.t):=hF.t0
  have HT':Hid (s.t≤1152921504606846976):=by have:=hF.t1;show _≤_;omega
  have c33:=h.core.cell 33 (by decide)
  have e33:z0l s 33=.int .u32 (s.f 32):=rfl
  rw[e33] at c33
  have c34:=h.core.cell 34 (by decide)
  have e34:z0l s 34=.bool true:=by rw[← hu];rfl
  rw[e34] at c34
  have c0:=h.core.cell 0 (by decide)
  have e0:z0l s 0=.slice (some ⟨bm,0,none⟩) l.length cap:=h.mem.m
  rw[e0] at c0
  have t4:(s.f 32).tmod 4=s.f 32%4:=Int.tmod_eq_emod_of_nonneg (hF.f 32).1
  have p4:(s.f 32%4 != 0)=false:=by simpa using hp
  have CL:Hid _:=fun W hm hl=>z6p bm l.length cap l (s.f 32) 4 false h.mem.len (hF.f 32) h.mem.u W hm hl
  rw[ha,z2p ha] at CL
  have CG:Hid _:=z8g (z2l l (s.f 32) 4) hg
  have CK:Hid _:=z3j nm
  have HG:Hid (∀ i,U32 (gw s.f i)):=fun i=>HF.out.f _
  have HP:Hid (U32 (s.f 32)):=hF.f 32
  have HAL:Hid _:=hal
  have k67:((z0q nm).k==67)=false:=by simpa using hk67
  have y1:(nm==[109,114,101,116])=true:=by rw[beq_iff_eq];exact hnm
  clear hk67 hnm
  have RG:Hid _:=z1x h.core
  clear hal
  generalize (z0q nm).k=kk at *
  have HX:Hid (z1l l (s.f 32) 4 false=x):=hx
  rw[hx] at CL CG
  generalize hpc:s.f 32=pc at *
  have HPC:Hid (s.f 32=pc):=hpc
  have ha0:(0:Int)≤(a:Int):=by omega
  have ha1:(a:Int)<32:=by omega
  have hb0:(0:Int)≤(b:Int):=by omega
  have hb1:(b:Int)<32:=by omega
  have hd0:(0:Int)≤(d:Int):=by omega
  have hd1:(d:Int)<32:=by omega
  clear h hF hp ha hg hx hpc hu e33 e34 e0
  go_enter Tryz.func30,Tryz.ntmps30
  go_wp2_with (first | (refine z0w (by rfl) 30 (.tmp 30) rfl c 42 rfl (z2n (gw s.f)) _ RG.out z7e rfl (by rw[z1r];exact z4r) ?_))
  refine (rOf _ HG.out _).mono ?_
  rintro e v4 ⟨g,cg,rfl,-,-,hcg,hreg,b4⟩
  have B4:Hid _:=b4
  have RR:Hid _:=hreg
  clear hreg b4 hcg RG
  go_wp2_with fail
  refine (z6a RR.out (z8q HG.out) 8 cg rfl (by decide) pc 4 2 HP.out ⟨by decide,by decide⟩).mono ?_
  rintro e v5 ⟨rfl,b5⟩
  rw[HAL.out]
  have B5:Hid (Below w.heap.size w v5):=z0e B4.out b5
  clear b5 B4 RR HAL
  have M5:Hid (z0i v5 c s):=HM.out.core.below B5.out
  have N5:Hid _:=HM.out.mem.on (Chg.of B5.out) rfl
  have c0:=M5.out.cell 0 (by decide)
  have e0:z0l s 0=.slice (some ⟨bm,0,none⟩) l.length cap:=HM.out.mem.m
  rw[e0] at c0
  clear c33 c34 e0
  go_wp2_with fail
  refine Calls.mono (CL.out v5 N5.out.mem N5.out.lt) ?_
  rintro e w2 ⟨rfl,b2⟩
  have H2:Hid (z0i w2 c s):=M5.out.below b2
  have G2 : Hid (Chg (· = c) w w2) := (Chg.of B5.out).step b2
  clear M5 N5 B5
  clear CL b2 c0
  have q2:c<w2.heap.size:=H2.out.lt
  have H2b:Hid (z0i (w2.alloc (.cells #[.int .u32 x,.int .i64 0] 81)) c s):=H2.out.below ((Below.refl _ _).alloc (Nat.le_refl _) _)
  have G2b : Hid (Chg (· = c) w (w2.alloc (.cells #[.int .u32 x, .int .i64 0] 81))) := G2.out.alloc _
  have I2:=z0g w2 (.cells #[.int .u32 x,.int .i64 0] 81)
  obtain⟨ic,_,il⟩:=z0a I2
  have i0:=ic 0 (.int .u32 x) rfl
  have i1:=ic 1 (.int .i64 0) rfl
  clear H2 G2 ic
  go_wp2_with fail
  generalize w2.alloc (.cells #[.int .u32 x,.int .i64 0] 81)=V2 at *
  have nbg:w2.heap.size≠c:=by omega
  generalize w2.heap.size=bg at *
  refine Calls.mono (CG.out _) ?_
  rintro e w3 ⟨rfl,b3⟩
  have H3:Hid (z0i w3 c s):=H2b.out.below b3
  have G3 : Hid (Chg (· = c) w w3) := G2b.out.step b3
  have I3:=z0f I2 b3
  have q3:c<w3.heap.size:=H3.out.lt
  have q3':bg<w3.heap.size:=(Array.getElem?_eq_some_iff.1 I3).1
  clear b3 H2b G2b I2 i0 i1 il CG q2
  go_wp2_with fail
  have TT:Hid (Told w ((w3.alloc (.cells #[.string ⟨nm.toArray⟩,.int .i64 d,.int .i64 a,.int .i64 b,.int .i32 m,.bool true] 104)).alloc (.cells #[.string ⟨nm.toArray⟩,.int .i64 d,.int .i64 a,.int .i64 b,.int .i32 m] 52)) c s (w3.heap.size+1) bg nm d a b m x):=by
    refine⟨H3.out.below box2,(G3.out.alloc _).alloc _,?_,z0f I3 box2,by omega,nbg⟩
    have:=z0g (w3.alloc (.cells #[.string ⟨nm.toArray⟩,.int .i64 d,.int .i64 a,.int .i64 b,.int .i32 m,.bool true] 104)) (.cells #[.string ⟨nm.toArray⟩,.int .i64 d,.int .i64 a,.int .i64 b,.int .i32 m] 52)
    rwa [World.size_alloc] at this
  have TO:Hid (((w3.alloc (.cells #[.string ⟨nm.toArray⟩,.int .i64 d,.int .i64 a,.int .i64 b,.int .i32 m,.bool true] 104)).alloc (.cells #[.string ⟨nm.toArray⟩,.int .i64 d,.int .i64 a,.int .i64 b,.int .i32 m] 52)).heap[w3.heap.size]?=some (.cells #[.string ⟨nm.toArray⟩,.int .i64 d,.int .i64 a,.int .i64 b,.int .i32 m,.bool true] 104)):=z0m ((Below.refl _ _).alloc (Nat.le_refl _) _)
  clear H3 G3 I3 nbg
  generalize (w3.alloc (.cells #[.string ⟨nm.toArray⟩,.int .i64 d,.int .i64 a,.int .i64 b,.int .i32 m,.bool true] 104)).alloc (.cells #[.string ⟨nm.toArray⟩,.int .i64 d,.int .i64 a,.int .i64 b,.int .i32 m] 52)=V3 at *
  generalize w3.heap.size=bt at *
  refine Calls.mono (CK.out _) ?_
  rintro e w4 ⟨rfl,b4⟩
  have T4:Hid _:=TT.out.below b4
  have t5:=(z0a (z0f TO.out b4)).1 5 (.bool true) rfl
  have i0:=(z0a T4.out.ins).1 0 (.string ⟨nm.toArray⟩) rfl
  have g0:=(z0a T4.out.got).1 0 (.int .u32 x) rfl
  have c34:=T4.out.core.cell 34 (by decide)
  have e34:z0l s 34=.bool true:=by show Value.bool s.u=_;rw[hu']
  rw[e34] at c34
  clear b4 TT TO CK e34
  go_wp2_with fail
  refine (z3l T4.out.core HF.out.f 2 x HT.out HT'.out).mono ?_
  rintro e w7 ⟨rfl,h7,g7⟩
  have H7:Hid _:=h7
  have G7:Hid _:=T4.out.chg.trans g7
  clear h7 g7
  go_wp2
  refine bodyPost_ret (results_none rfl _ _ _) rfl ?_
  exact⟨rfl,z0x HM.out H7.out G7.out rfl rfl⟩
theorem mdo_bar_w {w : World} {c bm cap B : Nat} {s : CS} {l : List Int} {es : List Ev} (h : z1q w c bm cap B s l es) (hF : Fine s es) (hu : s.u = true) (hp : s.f 32 % 4 = 0) (hal : z2m (ofV (gw s.f)) (s.f 32) 4 2 = true) (ha : askV l.length (s.f 32) 4 = 0) (nm : List UInt8) (d a b : Nat) (m x : Int) (hx : z1l l (s.f 32) 4 false = x) (hg : getV (z1l l (s.f 32) 4 false) = some ⟨nm, d, a, b, m⟩) (hla : a < 32) (hlb : b < 32) (hld : d < 32) (hk67 : ¬ (z0q nm).k = 67) (hnm : ¬ nm = [109, 114, 101, 116]) (hnw : nm = [119, 102, 105]) :
    Calls Tryz.prog 30 #[.pointer (some ⟨c,0,none⟩)] w fun e w'=>e=.returned (.tuple #[])∧Went w w' c bm cap B s (z1j s 2 x,l,es):=by
  have hu':=hu
  have HM:Hid _:=h
  have HF:Hid _:=hF
  have HT:Hid (0≤s.t):=hF.t0
  have HT':Hid (s.t≤1152921504606846976):=by have:=hF.t1;show _≤_;omega
  have c33:=h.core.cell 33 (by decide)
  have e33:z0l s 33=.int .u32 (s.f 32):=rfl
  rw[e33] at c33
  have c34:=h.core.cell 34 (by decide)
  have e34:z0l s 34=.bool true:=by rw[← hu];rfl
  rw[e34] at c34
  have c0:=h.core.cell 0 (by decide)
  have e0:z0l s 0=.slice (some ⟨bm,0,none⟩) l.length cap:=h.mem.m
  rw[e0] at c0
  have t4:(s.f 32).tmod 4=s.f 32%4:=Int.tmod_eq_emod_of_nonneg (hF.f 32).1
  have p4:(s.f 32%4 != 0)=false:=by simpa using hp
  have CL:Hid _:=fun W hm hl=>z6p bm l.length cap l (s.f 32) 4 false h.mem.len (hF.f 32) h.mem.u W hm hl
  rw[ha,z2p ha] at CL
  have CG:Hid _:=z8g (z2l l (s.f 32) 4) hg
  have CK:Hid _:=z3j nm
  have HG:Hid (∀ i,U32 (gw s.f i)):=fun i=>HF.out.f _
  have HP:Hid (U32 (s.f 32)):=hF.f 32
  have HAL:Hid _:=hal
  have k67:((z0q nm).k==67)=false:=by simpa using hk67
  have y1:(nm==[109,114,101,116])=false:=by rw[beq_eq_false_iff_ne];exact hnm
  have y2:(nm==[119,102,105])=true:=by rw[beq_iff_eq];exact hnw
  clear hk67 hnm hnw
  have RG:Hid _:=z1x h.core
  clear hal
  generalize (z0q nm).k=kk at *
  have HX:Hid (z1l l (s.f 32) 4 false=x):=hx
  rw[hx] at CL CG
  generalize hpc:s.f 32=pc at *
  have HPC:Hid (s.f 32=pc):=hpc
  have ha0:(0:Int)≤(a:Int):=by omega
  have ha1:(a:Int)<32:=by omega
  have hb0:(0:Int)≤(b:Int):=by omega
  have hb1:(b:Int)<32:=by omega
  have hd0:(0:Int)≤(d:Int):=by omega
  have hd1:(d:Int)<32:=by omega
  clear h hF hp ha hg hx hpc hu e33 e34 e0
  go_enter Tryz.func30,Tryz.ntmps30
  go_wp2_with (first | (refine z0w (by rfl) 30 (.tmp 30) rfl c 42 rfl (z2n (gw s.f)) _ RG.out z7e rfl (by rw[z1r];exact z4r) ?_))
  refine (rOf _ HG.out _).mono ?_
  rintro e v4 ⟨g,cg,rfl,-,-,hcg,hreg,b4⟩
  have B4:Hid _:=b4
  have RR:Hid _:=hreg
  clear hreg b4 hcg RG
  go_wp2_with fail
  refine (z6a RR.out (z8q HG.out) 8 cg rfl (by decide) pc 4 2 HP.out ⟨by decide,by decide⟩).mono ?_
  rintro e v5 ⟨rfl,b5⟩
  rw[HAL.out]
  have B5:Hid (Below w.heap.size w v5):=z0e B4.out b5
  clear b5 B4 RR HAL
  have M5:Hid (z0i v5 c s):=HM.out.core.below B5.out
  have N5:Hid _:=HM.out.mem.on (Chg.of B5.out) rfl
  have c0:=M5.out.cell 0 (by decide)
  have e0:z0l s 0=.slice (some ⟨bm,0,none⟩) l.length cap:=HM.out.mem.m
  rw[e0] at c0
  clear c33 c34 e0
  go_wp2_with fail
  refine Calls.mono (CL.out v5 N5.out.mem N5.out.lt) ?_
  rintro e w2 ⟨rfl,b2⟩
  have H2:Hid (z0i w2 c s):=M5.out.below b2
  have G2 : Hid (Chg (· = c) w w2) := (Chg.of B5.out).step b2
  clear M5 N5 B5
  clear CL b2 c0
  have q2:c<w2.heap.size:=H2.out.lt
  have H2b:Hid (z0i (w2.alloc (.cells #[.int .u32 x,.int .i64 0] 81)) c s):=H2.out.below ((Below.refl _ _).alloc (Nat.le_refl _) _)
  have G2b : Hid (Chg (· = c) w (w2.alloc (.cells #[.int .u32 x, .int .i64 0] 81))) := G2.out.alloc _
  have I2:=z0g w2 (.cells #[.int .u32 x,.int .i64 0] 81)
  obtain⟨ic,_,il⟩:=z0a I2
  have i0:=ic 0 (.int .u32 x) rfl
  have i1:=ic 1 (.int .i64 0) rfl
  clear H2 G2 ic
  go_wp2_with fail
  generalize w2.alloc (.cells #[.int .u32 x,.int .i64 0] 81)=V2 at *
  have nbg:w2.heap.size≠c:=by omega
  generalize w2.heap.size=bg at *
  refine Calls.mono (CG.out _) ?_
  rintro e w3 ⟨rfl,b3⟩
  have H3:Hid (z0i w3 c s):=H2b.out.below b3
  have G3 : Hid (Chg (· = c) w w3) := G2b.out.step b3
  have I3:=z0f I2 b3
  have q3:c<w3.heap.size:=H3.out.lt
  have q3':bg<w3.heap.size:=(Array.getElem?_eq_some_iff.1 I3).1
  clear b3 H2b G2b I2 i0 i1 il CG q2
  go_wp2_with fail
  have TT:Hid (Told w ((w3.alloc (.cells #[.string ⟨nm.toArray⟩,.int .i64 d,.int .i64 a,.int .i64 b,.int .i32 m,.bool true] 104)).alloc (.cells #[.string ⟨nm.toArray⟩,.int .i64 d,.int .i64 a,.int .i64 b,.int .i32 m] 52)) c s (w3.heap.size+1) bg nm d a b m x):=by
    refine⟨H3.out.below box2,(G3.out.alloc _).alloc _,?_,z0f I3 box2,by omega,nbg⟩
    have:=z0g (w3.alloc (.cells #[.string ⟨nm.toArray⟩,.int .i64 d,.int .i64 a,.int .i64 b,.int .i32 m,.bool true] 104)) (.cells #[.string ⟨nm.toArray⟩,.int .i64 d,.int .i64 a,.int .i64 b,.int .i32 m] 52)
    rwa [World.size_alloc] at this
  have TO:Hid (((w3.alloc (.cells #[.string ⟨nm.toArray⟩,.int .i64 d,.int .i64 a,.int .i64 b,.int .i32 m,.bool true] 104)).alloc (.cells #[.string ⟨nm.toArray⟩,.int .i64 d,.int .i64 a,.int .i64 b,.int .i32 m] 52)).heap[w3.heap.size]?=some (.cells #[.string ⟨nm.toArray⟩,.int .i64 d,.int .i64 a,.int .i64 b,.int .i32 m,.bool true] 104)):=z0m ((Below.refl _ _).alloc (Nat.le_refl _) _)
  clear H3 G3 I3 nbg
  generalize (w3.alloc (.cells #[.string ⟨nm.toArray⟩,.int .i64 d,.int .i64 a,.int .i64 b,.int .i32 m,.bool true] 104)).alloc (.cells #[.string ⟨nm.toArray⟩,.int .i64 d,.int .i64 a,.int .i64 b,.int .i32 m] 52)=V3 at *
  generalize w3.heap.size=bt at *
  refine Calls.mono (CK.out _) ?_
  rintro e w4 ⟨rfl,b4⟩
  have T4:Hid _:=TT.out.below b4
  have t5:=(z0a (z0f TO.out b4)).1 5 (.bool true) rfl
  have i0:=(z0a T4.out.ins).1 0 (.string ⟨nm.toArray⟩) rfl
  have g0:=(z0a T4.out.got).1 0 (.int .u32 x) rfl
  have c34:=T4.out.core.cell 34 (by decide)
  have e34:z0l s 34=.bool true:=by show Value.bool s.u=_;rw[hu']
  rw[e34] at c34
  clear b4 TT TO CK e34
  go_wp2_with fail
  refine (z3l T4.out.core HF.out.f 2 x HT.out HT'.out).mono ?_
  rintro e w7 ⟨rfl,h7,g7⟩
  have H7:Hid _:=h7
  have G7:Hid _:=T4.out.chg.trans g7
  clear h7 g7
  go_wp2
  refine bodyPost_ret (results_none rfl _ _ _) rfl ?_
  exact⟨rfl,z0x HM.out H7.out G7.out rfl rfl⟩
end Go.Proofs.YtbmnmbkgdalkcaaGreatDoor
