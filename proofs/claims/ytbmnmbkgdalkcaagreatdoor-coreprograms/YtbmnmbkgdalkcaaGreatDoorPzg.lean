/-
  Contracts of functions that the statement reaches, and what they are made of, callees first.
-/
import Derived.Test.YtbmnmbkgdalkcaaGreatDoorPzf
set_option maxRecDepth 100000
set_option maxHeartbeats 8000000
namespace Go.Proofs.YtbmnmbkgdalkcaaGreatDoor
open Go.RowKit
theorem z7s {w : World} {c bm cap B : Nat} {s : CS} {l : List Int} {es : List Ev} (h : z1q w c bm cap B s l es) (hF : Fine s es) (hu : s.u = false) (hp : s.f 32 % 4 = 0) (ha : askV l.length (s.f 32) 4 = 0)
    (nm:List UInt8) (d a b:Nat) (m x:Int) (hx:z1l l (s.f 32) 4 false=x) (hg:getV (z1l l (s.f 32) 4 false)=some ⟨nm,d,a,b,m⟩) (hld:d<32) (hla:a<32) (hlb:b<32) (hn:nm=[108,117,105]∨nm=[97,117,105,112,99]∨nm=[106,97,108]∨nm=[106,97,108,114]) :
    Calls Tryz.prog 30 #[.pointer (some ⟨c,0,none⟩)] w fun e w'=>e=.returned (.tuple #[])∧Went w w' c bm cap B s (insC s l es ⟨nm,d,a,b,m⟩ x):=by
  have hu':=hu
  have HNM:Hid _:=hn
  clear hn
  have HM:Hid _:=h
  have HF:Hid _:=hF
  have HT:Hid (0≤s.t):=hF.t0
  have HT':Hid (s.t≤1152921504606846976):=by have:=hF.t1;show _≤_;omega
  have c33:=h.core.cell 33 (by decide)
  have e33:z0l s 33=.int .u32 (s.f 32):=rfl
  rw[e33] at c33
  have c34:=h.core.cell 34 (by decide)
  have e34:z0l s 34=.bool false:=by rw[← hu];rfl
  rw[e34] at c34
  have c0:=h.core.cell 0 (by decide)
  have e0:z0l s 0=.slice (some ⟨bm,0,none⟩) l.length cap:=h.mem.m
  rw[e0] at c0
  have t4:(s.f 32).tmod 4=s.f 32%4:=Int.tmod_eq_emod_of_nonneg (hF.f 32).1
  have p4:(s.f 32%4 != 0)=false:=by simpa using hp
  have CL:Hid _:=fun W hm hl=>z6p bm l.length cap l (s.f 32) 4 false h.mem.len (hF.f 32) h.mem.u W hm hl
  rw[ha,z2p ha] at CL
  have CG:Hid _:=z8g (z2l l (s.f 32) 4) hg
  have CK:Hid _:=z3j nm
  generalize (z0q nm).k=kk at *
  have HX:Hid (z1l l (s.f 32) 4 false=x):=hx
  rw[hx] at CL CG
  generalize hpc:s.f 32=pc at *
  have HPC:Hid (s.f 32=pc):=hpc
  have ha0:(0:Int)≤(a:Int):=by omega
  have ha1:(a:Int)<32:=by omega
  have hb0:(0:Int)≤(b:Int):=by omega
  have hb1:(b:Int)<32:=by omega
  have hd0:(0:Int)≤(d:Int):=by omega
  have hd1:(d:Int)<32:=by omega
  clear h hF hp ha hg hx hpc hu e33 e34 e0
  go_enter Tryz.func30,Tryz.ntmps30
  go_wp2_with fail
  refine Calls.mono (CL.out w HM.out.mem.mem HM.out.mem.lt) ?_
  rintro e w2 ⟨rfl,b2⟩
  have H2:Hid (z0i w2 c s):=HM.out.core.below b2
  have G2 : Hid (Chg (· = c) w w2) := Chg.of b2
  clear CL b2 c0
  have q2:c<w2.heap.size:=H2.out.lt
  have H2b:Hid (z0i (w2.alloc (.cells #[.int .u32 x,.int .i64 0] 81)) c s):=H2.out.below ((Below.refl _ _).alloc (Nat.le_refl _) _)
  have G2b : Hid (Chg (· = c) w (w2.alloc (.cells #[.int .u32 x, .int .i64 0] 81))) := G2.out.alloc _
  have I2:=z0g w2 (.cells #[.int .u32 x,.int .i64 0] 81)
  obtain⟨ic,_,il⟩:=z0a I2
  have i0:=ic 0 (.int .u32 x) rfl
  have i1:=ic 1 (.int .i64 0) rfl
  clear H2 G2 ic
  go_wp2_with fail
  generalize w2.alloc (.cells #[.int .u32 x,.int .i64 0] 81)=V2 at *
  have nbg:w2.heap.size≠c:=by omega
  generalize w2.heap.size=bg at *
  refine Calls.mono (CG.out _) ?_
  rintro e w3 ⟨rfl,b3⟩
  have H3:Hid (z0i w3 c s):=H2b.out.below b3
  have G3 : Hid (Chg (· = c) w w3) := G2b.out.step b3
  have I3:=z0f I2 b3
  have q3:c<w3.heap.size:=H3.out.lt
  have q3':bg<w3.heap.size:=(Array.getElem?_eq_some_iff.1 I3).1
  clear b3 H2b G2b I2 i0 i1 il CG q2
  go_wp2_with fail
  have TT:Hid (Told w ((w3.alloc (.cells #[.string ⟨nm.toArray⟩,.int .i64 d,.int .i64 a,.int .i64 b,.int .i32 m,.bool true] 104)).alloc (.cells #[.string ⟨nm.toArray⟩,.int .i64 d,.int .i64 a,.int .i64 b,.int .i32 m] 52)) c s (w3.heap.size+1) bg nm d a b m x):=by
    refine⟨H3.out.below box2,(G3.out.alloc _).alloc _,?_,z0f I3 box2,by omega,nbg⟩
    have:=z0g (w3.alloc (.cells #[.string ⟨nm.toArray⟩,.int .i64 d,.int .i64 a,.int .i64 b,.int .i32 m,.bool true] 104)) (.cells #[.string ⟨nm.toArray⟩,.int .i64 d,.int .i64 a,.int .i64 b,.int .i32 m] 52)
    rwa [World.size_alloc] at this
  have TO:Hid (((w3.alloc (.cells #[.string ⟨nm.toArray⟩,.int .i64 d,.int .i64 a,.int .i64 b,.int .i32 m,.bool true] 104)).alloc (.cells #[.string ⟨nm.toArray⟩,.int .i64 d,.int .i64 a,.int .i64 b,.int .i32 m] 52)).heap[w3.heap.size]?=some (.cells #[.string ⟨nm.toArray⟩,.int .i64 d,.int .i64 a,.int .i64 b,.int .i32 m,.bool true] 104)):=z0m ((Below.refl _ _).alloc (Nat.le_refl _) _)
  clear H3 G3 I3 nbg
  generalize (w3.alloc (.cells #[.string ⟨nm.toArray⟩,.int .i64 d,.int .i64 a,.int .i64 b,.int .i32 m,.bool true] 104)).alloc (.cells #[.string ⟨nm.toArray⟩,.int .i64 d,.int .i64 a,.int .i64 b,.int .i32 m] 52)=V3 at *
  generalize w3.heap.size=bt at *
  refine Calls.mono (CK.out _) ?_
  rintro e w4 ⟨rfl,b4⟩
  have T4:Hid _:=TT.out.below b4
  have t5:=(z0a (z0f TO.out b4)).1 5 (.bool true) rfl
  have i0:=(z0a T4.out.ins).1 0 (.string ⟨nm.toArray⟩) rfl
  have i2:=(z0a T4.out.ins).1 2 (.int .i64 a) rfl
  have i3:=(z0a T4.out.ins).1 3 (.int .i64 b) rfl
  have i4:=(z0a T4.out.ins).1 4 (.int .i32 m) rfl
  have xa:=T4.out.core.x a hla
  have xb:=T4.out.core.x b hlb
  have c34:=T4.out.core.cell 34 (by decide)
  have e34:z0l s 34=.bool false:=by show Value.bool s.u=_;rw[hu']
  rw[e34] at c34
  clear b4 TT TO CK e34
  go_wp2_with fail
  --DBG
  go_quiet (fail)
  have T5:Hid _:=T4.out.below (z0u w4.heap.size w4 nq)
  have j0:=(z0a T5.out.ins).1 0 (.string ⟨nm.toArray⟩) rfl
  have j1:=(z0a T5.out.ins).1 1 (.int .i64 d) rfl
  have cr:=T5.out.core.x d hld
  have fr:=T5.out.core.free (1+d)
  clear T4 t5 i0 i2 i3 i4 xa xb c34 c33
  generalize w4.drewN nq=W5 at *
  generalize bt+1=bi at *
  have HMU0:U32 (m%4294967296):=⟨by omega,by omega⟩
  generalize hmu:m%4294967296=mu at *
  have HMU:Hid (m%4294967296=mu):=hmu
  have HMV:Hid (U32 mu):=HMU0
  clear hmu HMU0
  have hn:=HNM.out
  clear HNM
  rcases hn with rfl | rfl | rfl | rfl
  · go_wp2_with fail
    go_region
    have H6:Hid (z0i ((W5.setCell ⟨c,1+d,none⟩ (.int .u32 (mu*4096%4294967296))).drew) c (setX s d (mu*4096%4294967296))):=(T5.out.core.putx d hld _).drew
    have G6 : Hid (Chg (· = c) w ((W5.setCell ⟨c, 1 + d, none⟩ (.int .u32 (mu * 4096 % 4294967296))).drew)) := (T5.out.chg.own _).drew
    generalize (W5.setCell ⟨c,1+d,none⟩ (.int .u32 (mu*4096%4294967296))).drew=W6 at *
    clear T5 j0 j1 cr fr
    go_wp2_with fail
    refine (z4l H6.out _ 1 HT.out HT'.out (by decide) (by decide)).mono ?_
    rintro e w7 ⟨rfl,h7,g7⟩
    have H7:Hid _:=h7
    have G7:Hid _:=G6.out.trans g7
    clear h7 g7
    go_wp2
    go_end0
    refine⟨rfl,?_⟩
    rw[insC_lui,HPC.out,HMU.out]
    exact z0x HM.out H7.out G7.out rfl rfl
  · go_wp2_with fail
    go_region
    have H6:Hid (z0i ((W5.setCell ⟨c,1+d,none⟩ (.int .u32 ((mu*4096+pc)%4294967296))).drew) c (setX s d ((mu*4096+pc)%4294967296))):=(T5.out.core.putx d hld _).drew
    have G6 : Hid (Chg (· = c) w ((W5.setCell ⟨c, 1 + d, none⟩ (.int .u32 ((mu * 4096 + pc) % 4294967296))).drew)) := (T5.out.chg.own _).drew
    generalize (W5.setCell ⟨c,1+d,none⟩ (.int .u32 ((mu*4096+pc)%4294967296))).drew=W6 at *
    clear T5 j0 j1 cr fr
    go_wp2_with fail
    refine (z4l H6.out _ 1 HT.out HT'.out (by decide) (by decide)).mono ?_
    rintro e w7 ⟨rfl,h7,g7⟩
    have H7:Hid _:=h7
    have G7:Hid _:=G6.out.trans g7
    clear h7 g7
    go_wp2
    go_end0
    refine⟨rfl,?_⟩
    rw[insC_auipc,HPC.out,HMU.out]
    exact z0x HM.out H7.out G7.out rfl rfl
  · go_wp2_with fail
    go_region
    have H6:Hid (z0i ((W5.setCell ⟨c,1+d,none⟩ (.int .u32 ((pc+4)%4294967296))).drew) c (setX s d ((pc+4)%4294967296))):=(T5.out.core.putx d hld _).drew
    have G6 : Hid (Chg (· = c) w ((W5.setCell ⟨c, 1 + d, none⟩ (.int .u32 ((pc + 4) % 4294967296))).drew)) := (T5.out.chg.own _).drew
    generalize (W5.setCell ⟨c,1+d,none⟩ (.int .u32 ((pc+4)%4294967296))).drew=W6 at *
    clear T5 j0 j1 cr fr
    go_wp2_with fail
    refine (z4l H6.out _ 2 HT.out HT'.out (by decide) (by decide)).mono ?_
    rintro e w7 ⟨rfl,h7,g7⟩
    have H7:Hid _:=h7
    have G7:Hid _:=G6.out.trans g7
    clear h7 g7
    go_wp2
    go_end0
    refine⟨rfl,?_⟩
    rw[insC_jal,HPC.out,HMU.out]
    exact z0x HM.out H7.out G7.out rfl rfl
  · go_wp2_with fail
    go_region
    have H6:Hid (z0i ((W5.setCell ⟨c,1+d,none⟩ (.int .u32 ((pc+4)%4294967296))).drew) c (setX s d ((pc+4)%4294967296))):=(T5.out.core.putx d hld _).drew
    have G6 : Hid (Chg (· = c) w ((W5.setCell ⟨c, 1 + d, none⟩ (.int .u32 ((pc + 4) % 4294967296))).drew)) := (T5.out.chg.own _).drew
    generalize (W5.setCell ⟨c,1+d,none⟩ (.int .u32 ((pc+4)%4294967296))).drew=W6 at *
    clear T5 j0 j1 cr fr
    go_wp2_with fail
    refine (z4l H6.out _ 2 HT.out HT'.out (by decide) (by decide)).mono ?_
    rintro e w7 ⟨rfl,h7,g7⟩
    have H7:Hid _:=h7
    have G7:Hid _:=G6.out.trans g7
    clear h7 g7
    go_wp2
    go_end0
    refine⟨rfl,?_⟩
    rw[insC_jalr,HPC.out,HMU.out]
    exact z0x HM.out H7.out G7.out rfl rfl
theorem z8z {w : World} {c bm cap B : Nat} {s : CS} {l : List Int} {es : List Ev} (h : z1q w c bm cap B s l es) (hF : Fine s es) (hu : s.u = true) (hp : s.f 32 % 4 = 0) (ha : askV l.length (s.f 32) 4 = 0)
    (nm:List UInt8) (d a b:Nat) (m x:Int) (hx:z1l l (s.f 32) 4 false=x) (hg:getV (z1l l (s.f 32) 4 false)=some ⟨nm,d,a,b,m⟩) (hld:d<32) (hla:a<32) (hlb:b<32) (hal:z2m (ofV (gw s.f)) (s.f 32) 4 2=true) (hk67:¬(z0q nm).k=67) (hnm:¬nm=[109,114,101,116]) (hnw:¬nm=[119,102,105]) (hn:nm=[108,117,105]∨nm=[97,117,105,112,99]∨nm=[106,97,108]∨nm=[106,97,108,114]) :
    Calls Tryz.prog 30 #[.pointer (some ⟨c,0,none⟩)] w fun e w'=>e=.returned (.tuple #[])∧Went w w' c bm cap B s (insC s l es ⟨nm,d,a,b,m⟩ x):=by
  have hu':=hu
  have HNM:Hid _:=hn
  clear hn
  have HM:Hid _:=h
  have HF:Hid _:=hF
  have HT:Hid (0≤s.t):=hF.t0
  have HT':Hid (s.t≤1152921504606846976):=by have:=hF.t1;show _≤_;omega
  have c33:=h.core.cell 33 (by decide)
  have e33:z0l s 33=.int .u32 (s.f 32):=rfl
  rw[e33] at c33
  have c34:=h.core.cell 34 (by decide)
  have e34:z0l s 34=.bool true:=by rw[← hu];rfl
  rw[e34] at c34
  have c0:=h.core.cell 0 (by decide)
  have e0:z0l s 0=.slice (some ⟨bm,0,none⟩) l.length cap:=h.mem.m
  rw[e0] at c0
  have t4:(s.f 32).tmod 4=s.f 32%4:=Int.tmod_eq_emod_of_nonneg (hF.f 32).1
  have p4:(s.f 32%4 != 0)=false:=by simpa using hp
  have CL:Hid _:=fun W hm hl=>z6p bm l.length cap l (s.f 32) 4 false h.mem.len (hF.f 32) h.mem.u W hm hl
  rw[ha,z2p ha] at CL
  have CG:Hid _:=z8g (z2l l (s.f 32) 4) hg
  have CK:Hid _:=z3j nm
  have HG:Hid (∀ i,U32 (gw s.f i)):=fun i=>HF.out.f _
  have HP:Hid (U32 (s.f 32)):=hF.f 32
  have HAL:Hid _:=hal
  have k67:((z0q nm).k==67)=false:=by simpa using hk67
  have RG:Hid _:=z1x h.core
  have z1:(nm==[109,114,101,116])=false:=by rw[beq_eq_false_iff_ne];exact hnm
  have z2:(nm==[119,102,105])=false:=by rw[beq_eq_false_iff_ne];exact hnw
  have z3:((⟨nm.toArray⟩:ByteArray).toList==[109,114,101,116])=false:=by rw[ByteArray.toList_eq];exact z1
  have z4:((⟨nm.toArray⟩:ByteArray).toList==[119,102,105])=false:=by rw[ByteArray.toList_eq];exact z2
  clear hal hk67 hnm hnw
  generalize (z0q nm).k=kk at *
  have HX:Hid (z1l l (s.f 32) 4 false=x):=hx
  rw[hx] at CL CG
  generalize hpc:s.f 32=pc at *
  have HPC:Hid (s.f 32=pc):=hpc
  have ha0:(0:Int)≤(a:Int):=by omega
  have ha1:(a:Int)<32:=by omega
  have hb0:(0:Int)≤(b:Int):=by omega
  have hb1:(b:Int)<32:=by omega
  have hd0:(0:Int)≤(d:Int):=by omega
  have hd1:(d:Int)<32:=by omega
  clear h hF hp ha hg hx hpc hu e33 e34 e0
  go_enter Tryz.func30,Tryz.ntmps30
  go_wp2_with (first | (refine z0w (by rfl) 30 (.tmp 30) rfl c 42 rfl (z2n (gw s.f)) _ RG.out z7e rfl (by rw[z1r];exact z4r) ?_))
  refine (rOf _ HG.out _).mono ?_
  rintro e v4 ⟨g,cg,rfl,-,-,hcg,hreg,b4⟩
  have B4:Hid _:=b4
  have RR:Hid _:=hreg
  clear hreg b4 hcg RG
  go_wp2_with fail
  refine (z6a RR.out (z8q HG.out) 8 cg rfl (by decide) pc 4 2 HP.out ⟨by decide,by decide⟩).mono ?_
  rintro e v5 ⟨rfl,b5⟩
  rw[HAL.out]
  have B5:Hid (Below w.heap.size w v5):=z0e B4.out b5
  clear b5 B4 RR HAL
  have M5:Hid (z0i v5 c s):=HM.out.core.below B5.out
  have N5:Hid _:=HM.out.mem.on (Chg.of B5.out) rfl
  have c0:=M5.out.cell 0 (by decide)
  have e0:z0l s 0=.slice (some ⟨bm,0,none⟩) l.length cap:=HM.out.mem.m
  rw[e0] at c0
  clear c33 c34 e0
  go_wp2_with fail
  refine Calls.mono (CL.out v5 N5.out.mem N5.out.lt) ?_
  rintro e w2 ⟨rfl,b2⟩
  have H2:Hid (z0i w2 c s):=M5.out.below b2
  have G2 : Hid (Chg (· = c) w w2) := (Chg.of B5.out).step b2
  clear M5 N5 B5
  clear CL b2 c0
  have q2:c<w2.heap.size:=H2.out.lt
  have H2b:Hid (z0i (w2.alloc (.cells #[.int .u32 x,.int .i64 0] 81)) c s):=H2.out.below ((Below.refl _ _).alloc (Nat.le_refl _) _)
  have G2b : Hid (Chg (· = c) w (w2.alloc (.cells #[.int .u32 x, .int .i64 0] 81))) := G2.out.alloc _
  have I2:=z0g w2 (.cells #[.int .u32 x,.int .i64 0] 81)
  obtain⟨ic,_,il⟩:=z0a I2
  have i0:=ic 0 (.int .u32 x) rfl
  have i1:=ic 1 (.int .i64 0) rfl
  clear H2 G2 ic
  go_wp2_with fail
  generalize w2.alloc (.cells #[.int .u32 x,.int .i64 0] 81)=V2 at *
  have nbg:w2.heap.size≠c:=by omega
  generalize w2.heap.size=bg at *
  refine Calls.mono (CG.out _) ?_
  rintro e w3 ⟨rfl,b3⟩
  have H3:Hid (z0i w3 c s):=H2b.out.below b3
  have G3 : Hid (Chg (· = c) w w3) := G2b.out.step b3
  have I3:=z0f I2 b3
  have q3:c<w3.heap.size:=H3.out.lt
  have q3':bg<w3.heap.size:=(Array.getElem?_eq_some_iff.1 I3).1
  clear b3 H2b G2b I2 i0 i1 il CG q2
  go_wp2_with fail
  have TT:Hid (Told w ((w3.alloc (.cells #[.string ⟨nm.toArray⟩,.int .i64 d,.int .i64 a,.int .i64 b,.int .i32 m,.bool true] 104)).alloc (.cells #[.string ⟨nm.toArray⟩,.int .i64 d,.int .i64 a,.int .i64 b,.int .i32 m] 52)) c s (w3.heap.size+1) bg nm d a b m x):=by
    refine⟨H3.out.below box2,(G3.out.alloc _).alloc _,?_,z0f I3 box2,by omega,nbg⟩
    have:=z0g (w3.alloc (.cells #[.string ⟨nm.toArray⟩,.int .i64 d,.int .i64 a,.int .i64 b,.int .i32 m,.bool true] 104)) (.cells #[.string ⟨nm.toArray⟩,.int .i64 d,.int .i64 a,.int .i64 b,.int .i32 m] 52)
    rwa [World.size_alloc] at this
  have TO:Hid (((w3.alloc (.cells #[.string ⟨nm.toArray⟩,.int .i64 d,.int .i64 a,.int .i64 b,.int .i32 m,.bool true] 104)).alloc (.cells #[.string ⟨nm.toArray⟩,.int .i64 d,.int .i64 a,.int .i64 b,.int .i32 m] 52)).heap[w3.heap.size]?=some (.cells #[.string ⟨nm.toArray⟩,.int .i64 d,.int .i64 a,.int .i64 b,.int .i32 m,.bool true] 104)):=z0m ((Below.refl _ _).alloc (Nat.le_refl _) _)
  clear H3 G3 I3 nbg
  generalize (w3.alloc (.cells #[.string ⟨nm.toArray⟩,.int .i64 d,.int .i64 a,.int .i64 b,.int .i32 m,.bool true] 104)).alloc (.cells #[.string ⟨nm.toArray⟩,.int .i64 d,.int .i64 a,.int .i64 b,.int .i32 m] 52)=V3 at *
  generalize w3.heap.size=bt at *
  refine Calls.mono (CK.out _) ?_
  rintro e w4 ⟨rfl,b4⟩
  have T4:Hid _:=TT.out.below b4
  have t5:=(z0a (z0f TO.out b4)).1 5 (.bool true) rfl
  have i0:=(z0a T4.out.ins).1 0 (.string ⟨nm.toArray⟩) rfl
  have i2:=(z0a T4.out.ins).1 2 (.int .i64 a) rfl
  have i3:=(z0a T4.out.ins).1 3 (.int .i64 b) rfl
  have i4:=(z0a T4.out.ins).1 4 (.int .i32 m) rfl
  have xa:=T4.out.core.x a hla
  have xb:=T4.out.core.x b hlb
  have c34:=T4.out.core.cell 34 (by decide)
  have e34:z0l s 34=.bool true:=by show Value.bool s.u=_;rw[hu']
  rw[e34] at c34
  clear b4 TT TO CK e34
  go_wp2_with fail
  --DBG
  go_quiet (fail)
  have T5:Hid _:=T4.out.below (z0u w4.heap.size w4 nq)
  have j0:=(z0a T5.out.ins).1 0 (.string ⟨nm.toArray⟩) rfl
  have j1:=(z0a T5.out.ins).1 1 (.int .i64 d) rfl
  have cr:=T5.out.core.x d hld
  have fr:=T5.out.core.free (1+d)
  clear T4 t5 i0 i2 i3 i4 xa xb c34
  generalize w4.drewN nq=W5 at *
  generalize bt+1=bi at *
  have HMU0:U32 (m%4294967296):=⟨by omega,by omega⟩
  generalize hmu:m%4294967296=mu at *
  have HMU:Hid (m%4294967296=mu):=hmu
  have HMV:Hid (U32 mu):=HMU0
  clear hmu HMU0
  have hn:=HNM.out
  clear HNM
  rcases hn with rfl | rfl | rfl | rfl
  · go_wp2_with fail
    go_region
    have H6:Hid (z0i ((W5.setCell ⟨c,1+d,none⟩ (.int .u32 (mu*4096%4294967296))).drew) c (setX s d (mu*4096%4294967296))):=(T5.out.core.putx d hld _).drew
    have G6 : Hid (Chg (· = c) w ((W5.setCell ⟨c, 1 + d, none⟩ (.int .u32 (mu * 4096 % 4294967296))).drew)) := (T5.out.chg.own _).drew
    generalize (W5.setCell ⟨c,1+d,none⟩ (.int .u32 (mu*4096%4294967296))).drew=W6 at *
    clear T5 j0 j1 cr fr
    go_wp2_with fail
    refine (z4l H6.out _ 1 HT.out HT'.out (by decide) (by decide)).mono ?_
    rintro e w7 ⟨rfl,h7,g7⟩
    have H7:Hid _:=h7
    have G7:Hid _:=G6.out.trans g7
    clear h7 g7
    go_wp2
    go_end0
    refine⟨rfl,?_⟩
    rw[insC_lui,HPC.out,HMU.out]
    exact z0x HM.out H7.out G7.out rfl rfl
  · go_wp2_with fail
    go_region
    have H6:Hid (z0i ((W5.setCell ⟨c,1+d,none⟩ (.int .u32 ((mu*4096+pc)%4294967296))).drew) c (setX s d ((mu*4096+pc)%4294967296))):=(T5.out.core.putx d hld _).drew
    have G6 : Hid (Chg (· = c) w ((W5.setCell ⟨c, 1 + d, none⟩ (.int .u32 ((mu * 4096 + pc) % 4294967296))).drew)) := (T5.out.chg.own _).drew
    generalize (W5.setCell ⟨c,1+d,none⟩ (.int .u32 ((mu*4096+pc)%4294967296))).drew=W6 at *
    clear T5 j0 j1 cr fr
    go_wp2_with fail
    refine (z4l H6.out _ 1 HT.out HT'.out (by decide) (by decide)).mono ?_
    rintro e w7 ⟨rfl,h7,g7⟩
    have H7:Hid _:=h7
    have G7:Hid _:=G6.out.trans g7
    clear h7 g7
    go_wp2
    go_end0
    refine⟨rfl,?_⟩
    rw[insC_auipc,HPC.out,HMU.out]
    exact z0x HM.out H7.out G7.out rfl rfl
  · go_wp2_with fail
    go_region
    have H6:Hid (z0i ((W5.setCell ⟨c,1+d,none⟩ (.int .u32 ((pc+4)%4294967296))).drew) c (setX s d ((pc+4)%4294967296))):=(T5.out.core.putx d hld _).drew
    have G6 : Hid (Chg (· = c) w ((W5.setCell ⟨c, 1 + d, none⟩ (.int .u32 ((pc + 4) % 4294967296))).drew)) := (T5.out.chg.own _).drew
    generalize (W5.setCell ⟨c,1+d,none⟩ (.int .u32 ((pc+4)%4294967296))).drew=W6 at *
    clear T5 j0 j1 cr fr
    go_wp2_with fail
    refine (z4l H6.out _ 2 HT.out HT'.out (by decide) (by decide)).mono ?_
    rintro e w7 ⟨rfl,h7,g7⟩
    have H7:Hid _:=h7
    have G7:Hid _:=G6.out.trans g7
    clear h7 g7
    go_wp2
    go_end0
    refine⟨rfl,?_⟩
    rw[insC_jal,HPC.out,HMU.out]
    exact z0x HM.out H7.out G7.out rfl rfl
  · go_wp2_with fail
    go_region
    have H6:Hid (z0i ((W5.setCell ⟨c,1+d,none⟩ (.int .u32 ((pc+4)%4294967296))).drew) c (setX s d ((pc+4)%4294967296))):=(T5.out.core.putx d hld _).drew
    have G6 : Hid (Chg (· = c) w ((W5.setCell ⟨c, 1 + d, none⟩ (.int .u32 ((pc + 4) % 4294967296))).drew)) := (T5.out.chg.own _).drew
    generalize (W5.setCell ⟨c,1+d,none⟩ (.int .u32 ((pc+4)%4294967296))).drew=W6 at *
    clear T5 j0 j1 cr fr
    go_wp2_with fail
    refine (z4l H6.out _ 2 HT.out HT'.out (by decide) (by decide)).mono ?_
    rintro e w7 ⟨rfl,h7,g7⟩
    have H7:Hid _:=h7
    have G7:Hid _:=G6.out.trans g7
    clear h7 g7
    go_wp2
    go_end0
    refine⟨rfl,?_⟩
    rw[insC_jalr,HPC.out,HMU.out]
    exact z0x HM.out H7.out G7.out rfl rfl
theorem z5l {w : World} {c bm cap B : Nat} {s : CS} {l : List Int} {es : List Ev} (h : z1q w c bm cap B s l es) (hF : Fine s es) (hu : s.u = false) (hp : s.f 32 % 4 = 0) (ha : askV l.length (s.f 32) 4 = 0)
    (nm:List UInt8) (d a b:Nat) (m x:Int) (hx:z1l l (s.f 32) 4 false=x) (hg:getV (z1l l (s.f 32) 4 false)=some ⟨nm,d,a,b,m⟩) (hld:d<32) (hla:a<32) (hlb:b<32) (hn:nm=[98,101,113]∨nm=[98,110,101]∨nm=[98,108,116]∨nm=[98,103,101]∨nm=[98,108,116,117]∨nm=[98,103,101,117]) :
    Calls Tryz.prog 30 #[.pointer (some ⟨c,0,none⟩)] w fun e w'=>e=.returned (.tuple #[])∧Went w w' c bm cap B s (insC s l es ⟨nm,d,a,b,m⟩ x):=by
  have hu':=hu
  have HNM:Hid _:=hn
  clear hn
  have HM:Hid _:=h
  have HF:Hid _:=hF
  have HT:Hid (0≤s.t):=hF.t0
  have HT':Hid (s.t≤1152921504606846976):=by have:=hF.t1;show _≤_;omega
  have c33:=h.core.cell 33 (by decide)
  have e33:z0l s 33=.int .u32 (s.f 32):=rfl
  rw[e33] at c33
  have c34:=h.core.cell 34 (by decide)
  have e34:z0l s 34=.bool false:=by rw[← hu];rfl
  rw[e34] at c34
  have c0:=h.core.cell 0 (by decide)
  have e0:z0l s 0=.slice (some ⟨bm,0,none⟩) l.length cap:=h.mem.m
  rw[e0] at c0
  have t4:(s.f 32).tmod 4=s.f 32%4:=Int.tmod_eq_emod_of_nonneg (hF.f 32).1
  have p4:(s.f 32%4 != 0)=false:=by simpa using hp
  have CL:Hid _:=fun W hm hl=>z6p bm l.length cap l (s.f 32) 4 false h.mem.len (hF.f 32) h.mem.u W hm hl
  rw[ha,z2p ha] at CL
  have CG:Hid _:=z8g (z2l l (s.f 32) 4) hg
  have CK:Hid _:=z3j nm
  generalize (z0q nm).k=kk at *
  have HX:Hid (z1l l (s.f 32) 4 false=x):=hx
  rw[hx] at CL CG
  generalize hpc:s.f 32=pc at *
  have HPC:Hid (s.f 32=pc):=hpc
  have ha0:(0:Int)≤(a:Int):=by omega
  have ha1:(a:Int)<32:=by omega
  have hb0:(0:Int)≤(b:Int):=by omega
  have hb1:(b:Int)<32:=by omega
  have hd0:(0:Int)≤(d:Int):=by omega
  have hd1:(d:Int)<32:=by omega
  clear h hF hp ha hg hx hpc hu e33 e34 e0
  go_enter Tryz.func30,Tryz.ntmps30
  go_wp2_with fail
  refine Calls.mono (CL.out w HM.out.mem.mem HM.out.mem.lt) ?_
  rintro e w2 ⟨rfl,b2⟩
  have H2:Hid (z0i w2 c s):=HM.out.core.below b2
  have G2 : Hid (Chg (· = c) w w2) := Chg.of b2
  clear CL b2 c0
  have q2:c<w2.heap.size:=H2.out.lt
  have H2b:Hid (z0i (w2.alloc (.cells #[.int .u32 x,.int .i64 0] 81)) c s):=H2.out.below ((Below.refl _ _).alloc (Nat.le_refl _) _)
  have G2b : Hid (Chg (· = c) w (w2.alloc (.cells #[.int .u32 x, .int .i64 0] 81))) := G2.out.alloc _
  have I2:=z0g w2 (.cells #[.int .u32 x,.int .i64 0] 81)
  obtain⟨ic,_,il⟩:=z0a I2
  have i0:=ic 0 (.int .u32 x) rfl
  have i1:=ic 1 (.int .i64 0) rfl
  clear H2 G2 ic
  go_wp2_with fail
  generalize w2.alloc (.cells #[.int .u32 x,.int .i64 0] 81)=V2 at *
  have nbg:w2.heap.size≠c:=by omega
  generalize w2.heap.size=bg at *
  refine Calls.mono (CG.out _) ?_
  rintro e w3 ⟨rfl,b3⟩
  have H3:Hid (z0i w3 c s):=H2b.out.below b3
  have G3 : Hid (Chg (· = c) w w3) := G2b.out.step b3
  have I3:=z0f I2 b3
  have q3:c<w3.heap.size:=H3.out.lt
  have q3':bg<w3.heap.size:=(Array.getElem?_eq_some_iff.1 I3).1
  clear b3 H2b G2b I2 i0 i1 il CG q2
  go_wp2_with fail
  have TT:Hid (Told w ((w3.alloc (.cells #[.string ⟨nm.toArray⟩,.int .i64 d,.int .i64 a,.int .i64 b,.int .i32 m,.bool true] 104)).alloc (.cells #[.string ⟨nm.toArray⟩,.int .i64 d,.int .i64 a,.int .i64 b,.int .i32 m] 52)) c s (w3.heap.size+1) bg nm d a b m x):=by
    refine⟨H3.out.below box2,(G3.out.alloc _).alloc _,?_,z0f I3 box2,by omega,nbg⟩
    have:=z0g (w3.alloc (.cells #[.string ⟨nm.toArray⟩,.int .i64 d,.int .i64 a,.int .i64 b,.int .i32 m,.bool true] 104)) (.cells #[.string ⟨nm.toArray⟩,.int .i64 d,.int .i64 a,.int .i64 b,.int .i32 m] 52)
    rwa [World.size_alloc] at this
  have TO:Hid (((w3.alloc (.cells #[.string ⟨nm.toArray⟩,.int .i64 d,.int .i64 a,.int .i64 b,.int .i32 m,.bool true] 104)).alloc (.cells #[.string ⟨nm.toArray⟩,.int .i64 d,.int .i64 a,.int .i64 b,.int .i32 m] 52)).heap[w3.heap.size]?=some (.cells #[.string ⟨nm.toArray⟩,.int .i64 d,.int .i64 a,.int .i64 b,.int .i32 m,.bool true] 104)):=z0m ((Below.refl _ _).alloc (Nat.le_refl _) _)
  clear H3 G3 I3 nbg
  generalize (w3.alloc (.cells #[.string ⟨nm.toArray⟩,.int .i64 d,.int .i64 a,.int .i64 b,.int .i32 m,.bool true] 104)).alloc (.cells #[.string ⟨nm.toArray⟩,.int .i64 d,.int .i64 a,.int .i64 b,.int .i32 m] 52)=V3 at *
  generalize w3.heap.size=bt at *
  refine Calls.mono (CK.out _) ?_
  rintro e w4 ⟨rfl,b4⟩
  have T4:Hid _:=TT.out.below b4
  have t5:=(z0a (z0f TO.out b4)).1 5 (.bool true) rfl
  have i0:=(z0a T4.out.ins).1 0 (.string ⟨nm.toArray⟩) rfl
  have i2:=(z0a T4.out.ins).1 2 (.int .i64 a) rfl
  have i3:=(z0a T4.out.ins).1 3 (.int .i64 b) rfl
  have i4:=(z0a T4.out.ins).1 4 (.int .i32 m) rfl
  have xa:=T4.out.core.x a hla
  have xb:=T4.out.core.x b hlb
  have c34:=T4.out.core.cell 34 (by decide)
  have e34:z0l s 34=.bool false:=by show Value.bool s.u=_;rw[hu']
  rw[e34] at c34
  clear b4 TT TO CK e34
  go_wp2_with fail
  --DBG
  go_quiet (fail)
  have T5:Hid _:=T4.out.below (z0u w4.heap.size w4 nq)
  have j0:=(z0a T5.out.ins).1 0 (.string ⟨nm.toArray⟩) rfl
  have j1:=(z0a T5.out.ins).1 1 (.int .i64 d) rfl
  have cr:=T5.out.core.x d hld
  have fr:=T5.out.core.free (1+d)
  clear T4 t5 i0 i2 i3 i4 xa xb c34 c33
  generalize w4.drewN nq=W5 at *
  generalize bt+1=bi at *
  have HMU0:U32 (m%4294967296):=⟨by omega,by omega⟩
  generalize hmu:m%4294967296=mu at *
  have HMU:Hid (m%4294967296=mu):=hmu
  have HMV:Hid (U32 mu):=HMU0
  clear hmu HMU0
  have hn:=HNM.out
  clear HNM
  rcases hn with rfl | rfl | rfl | rfl | rfl | rfl
  · clear cr fr j1
    have H6:Hid (z0i W5 c s):=T5.out.core
    have G6 : Hid (Chg (· = c) w W5) := T5.out.chg
    go_wp2_with fail
    refine (z5u H6.out _ _ HT.out HT'.out).mono ?_
    rintro e w7 ⟨rfl,h7,g7⟩
    have H7:Hid _:=h7
    have G7:Hid _:=G6.out.trans g7
    clear h7 g7
    go_wp2
    go_end0
    refine⟨rfl,?_⟩
    rw[insC_beq,HMU.out]
    exact z0x HM.out H7.out G7.out rfl rfl
  · clear cr fr j1
    have H6:Hid (z0i W5 c s):=T5.out.core
    have G6 : Hid (Chg (· = c) w W5) := T5.out.chg
    go_wp2_with fail
    refine (z5u H6.out _ _ HT.out HT'.out).mono ?_
    rintro e w7 ⟨rfl,h7,g7⟩
    have H7:Hid _:=h7
    have G7:Hid _:=G6.out.trans g7
    clear h7 g7
    go_wp2
    go_end0
    refine⟨rfl,?_⟩
    rw[insC_bne,HMU.out]
    exact z0x HM.out H7.out G7.out rfl rfl
  · clear cr fr j1
    have fd:=fld0 (.int .u32 (opN [115,108,116] (s.f a) (s.f b))) (.int .i64 (opE [115,108,116]))
    have CO:Hid (∀ w,Calls Tryz.prog 54 #[.string ⟨#[115,108,116]⟩,.int .u32 (s.f a),.int .u32 (s.f b)] w fun e w'=>e=.returned (.agg #[.int .u32 (opN [115,108,116] (s.f a) (s.f b)),.int .i64 (opE [115,108,116])])∧Below w.heap.size w w'):=fun w=>by have:=rOp ⟨#[115,108,116]⟩ (s.f a) (s.f b) (HF.out.f a) (HF.out.f b) w;rw[ByteArray.toList_eq] at this;exact this
    generalize hN:opN [115,108,116] (s.f a) (s.f b)=N at *
    have HN:Hid _:=hN
    clear hN
    go_wp2_with fail
    refine (CO.out _).mono ?_
    rintro e w6 ⟨rfl,b6⟩
    have H6:Hid (z0i w6 c s):=T5.out.core.below b6
    have G6 : Hid (Chg (· = c) w w6) := T5.out.chg.step b6
    clear b6 CO
    go_wp2_with fail
    refine (z5u H6.out _ _ HT.out HT'.out).mono ?_
    rintro e w7 ⟨rfl,h7,g7⟩
    have H7:Hid _:=h7
    have G7:Hid _:=G6.out.trans g7
    clear h7 g7
    go_wp2
    go_end0
    refine⟨rfl,?_⟩
    rw[insC_blt,HN.out,HMU.out]
    exact z0x HM.out H7.out G7.out rfl rfl
  · clear cr fr j1
    have fd:=fld0 (.int .u32 (opN [115,108,116] (s.f a) (s.f b))) (.int .i64 (opE [115,108,116]))
    have CO:Hid (∀ w,Calls Tryz.prog 54 #[.string ⟨#[115,108,116]⟩,.int .u32 (s.f a),.int .u32 (s.f b)] w fun e w'=>e=.returned (.agg #[.int .u32 (opN [115,108,116] (s.f a) (s.f b)),.int .i64 (opE [115,108,116])])∧Below w.heap.size w w'):=fun w=>by have:=rOp ⟨#[115,108,116]⟩ (s.f a) (s.f b) (HF.out.f a) (HF.out.f b) w;rw[ByteArray.toList_eq] at this;exact this
    generalize hN:opN [115,108,116] (s.f a) (s.f b)=N at *
    have HN:Hid _:=hN
    clear hN
    go_wp2_with fail
    refine (CO.out _).mono ?_
    rintro e w6 ⟨rfl,b6⟩
    have H6:Hid (z0i w6 c s):=T5.out.core.below b6
    have G6 : Hid (Chg (· = c) w w6) := T5.out.chg.step b6
    clear b6 CO
    go_wp2_with fail
    refine (z5u H6.out _ _ HT.out HT'.out).mono ?_
    rintro e w7 ⟨rfl,h7,g7⟩
    have H7:Hid _:=h7
    have G7:Hid _:=G6.out.trans g7
    clear h7 g7
    go_wp2
    go_end0
    refine⟨rfl,?_⟩
    rw[insC_bge,HN.out,HMU.out]
    exact z0x HM.out H7.out G7.out rfl rfl
  · clear cr fr j1
    have H6:Hid (z0i W5 c s):=T5.out.core
    have G6 : Hid (Chg (· = c) w W5) := T5.out.chg
    go_wp2_with fail
    refine (z5u H6.out _ _ HT.out HT'.out).mono ?_
    rintro e w7 ⟨rfl,h7,g7⟩
    have H7:Hid _:=h7
    have G7:Hid _:=G6.out.trans g7
    clear h7 g7
    go_wp2
    go_end0
    refine⟨rfl,?_⟩
    rw[insC_bltu,HMU.out]
    exact z0x HM.out H7.out G7.out rfl rfl
  · clear cr fr j1
    have H6:Hid (z0i W5 c s):=T5.out.core
    have G6 : Hid (Chg (· = c) w W5) := T5.out.chg
    go_wp2_with fail
    refine (z5u H6.out _ _ HT.out HT'.out).mono ?_
    rintro e w7 ⟨rfl,h7,g7⟩
    have H7:Hid _:=h7
    have G7:Hid _:=G6.out.trans g7
    clear h7 g7
    go_wp2
    go_end0
    refine⟨rfl,?_⟩
    rw[insC_bgeu,HMU.out]
    exact z0x HM.out H7.out G7.out rfl rfl
theorem z6m {w : World} {c bm cap B : Nat} {s : CS} {l : List Int} {es : List Ev} (h : z1q w c bm cap B s l es) (hF : Fine s es) (hu : s.u = true) (hp : s.f 32 % 4 = 0) (ha : askV l.length (s.f 32) 4 = 0)
    (nm:List UInt8) (d a b:Nat) (m x:Int) (hx:z1l l (s.f 32) 4 false=x) (hg:getV (z1l l (s.f 32) 4 false)=some ⟨nm,d,a,b,m⟩) (hld:d<32) (hla:a<32) (hlb:b<32) (hal:z2m (ofV (gw s.f)) (s.f 32) 4 2=true) (hk67:¬(z0q nm).k=67) (hnm:¬nm=[109,114,101,116]) (hnw:¬nm=[119,102,105]) (hn:nm=[98,101,113]∨nm=[98,110,101]∨nm=[98,108,116]∨nm=[98,103,101]∨nm=[98,108,116,117]∨nm=[98,103,101,117]) :
    Calls Tryz.prog 30 #[.pointer (some ⟨c,0,none⟩)] w fun e w'=>e=.returned (.tuple #[])∧Went w w' c bm cap B s (insC s l es ⟨nm,d,a,b,m⟩ x):=by
  have hu':=hu
  have HNM:Hid _:=hn
  clear hn
  have HM:Hid _:=h
  have HF:Hid _:=hF
  have HT:Hid (0≤s.t):=hF.t0
  have HT':Hid (s.t≤1152921504606846976):=by have:=hF.t1;show _≤_;omega
  have c33:=h.core.cell 33 (by decide)
  have e33:z0l s 33=.int .u32 (s.f 32):=rfl
  rw[e33] at c33
  have c34:=h.core.cell 34 (by decide)
  have e34:z0l s 34=.bool true:=by rw[← hu];rfl
  rw[e34] at c34
  have c0:=h.core.cell 0 (by decide)
  have e0:z0l s 0=.slice (some ⟨bm,0,none⟩) l.length cap:=h.mem.m
  rw[e0] at c0
  have t4:(s.f 32).tmod 4=s.f 32%4:=Int.tmod_eq_emod_of_nonneg (hF.f 32).1
  have p4:(s.f 32%4 != 0)=false:=by simpa using hp
  have CL:Hid _:=fun W hm hl=>z6p bm l.length cap l (s.f 32) 4 false h.mem.len (hF.f 32) h.mem.u W hm hl
  rw[ha,z2p ha] at CL
  have CG:Hid _:=z8g (z2l l (s.f 32) 4) hg
  have CK:Hid _:=z3j nm
  have HG:Hid (∀ i,U32 (gw s.f i)):=fun i=>HF.out.f _
  have HP:Hid (U32 (s.f 32)):=hF.f 32
  have HAL:Hid _:=hal
  have k67:((z0q nm).k==67)=false:=by simpa using hk67
  have RG:Hid _:=z1x h.core
  have z1:(nm==[109,114,101,116])=false:=by rw[beq_eq_false_iff_ne];exact hnm
  have z2:(nm==[119,102,105])=false:=by rw[beq_eq_false_iff_ne];exact hnw
  have z3:((⟨nm.toArray⟩:ByteArray).toList==[109,114,101,116])=false:=by rw[ByteArray.toList_eq];exact z1
  have z4:((⟨nm.toArray⟩:ByteArray).toList==[119,102,105])=false:=by rw[ByteArray.toList_eq];exact z2
  clear hal hk67 hnm hnw
  generalize (z0q nm).k=kk at *
  have HX:Hid (z1l l (s.f 32) 4 false=x):=hx
  rw[hx] at CL CG
  generalize hpc:s.f 32=pc at *
  have HPC:Hid (s.f 32=pc):=hpc
  have ha0:(0:Int)≤(a:Int):=by omega
  have ha1:(a:Int)<32:=by omega
  have hb0:(0:Int)≤(b:Int):=by omega
  have hb1:(b:Int)<32:=by omega
  have hd0:(0:Int)≤(d:Int):=by omega
  have hd1:(d:Int)<32:=by omega
  clear h hF hp ha hg hx hpc hu e33 e34 e0
  go_enter Tryz.func30,Tryz.ntmps30
  go_wp2_with (first | (refine z0w (by rfl) 30 (.tmp 30) rfl c 42 rfl (z2n (gw s.f)) _ RG.out z7e rfl (by rw[z1r];exact z4r) ?_))
  refine (rOf _ HG.out _).mono ?_
  rintro e v4 ⟨g,cg,rfl,-,-,hcg,hreg,b4⟩
  have B4:Hid _:=b4
  have RR:Hid _:=hreg
  clear hreg b4 hcg RG
  go_wp2_with fail
  refine (z6a RR.out (z8q HG.out) 8 cg rfl (by decide) pc 4 2 HP.out ⟨by decide,by decide⟩).mono ?_
  rintro e v5 ⟨rfl,b5⟩
  rw[HAL.out]
  have B5:Hid (Below w.heap.size w v5):=z0e B4.out b5
  clear b5 B4 RR HAL
  have M5:Hid (z0i v5 c s):=HM.out.core.below B5.out
  have N5:Hid _:=HM.out.mem.on (Chg.of B5.out) rfl
  have c0:=M5.out.cell 0 (by decide)
  have e0:z0l s 0=.slice (some ⟨bm,0,none⟩) l.length cap:=HM.out.mem.m
  rw[e0] at c0
  clear c33 c34 e0
  go_wp2_with fail
  refine Calls.mono (CL.out v5 N5.out.mem N5.out.lt) ?_
  rintro e w2 ⟨rfl,b2⟩
  have H2:Hid (z0i w2 c s):=M5.out.below b2
  have G2 : Hid (Chg (· = c) w w2) := (Chg.of B5.out).step b2
  clear M5 N5 B5
  clear CL b2 c0
  have q2:c<w2.heap.size:=H2.out.lt
  have H2b:Hid (z0i (w2.alloc (.cells #[.int .u32 x,.int .i64 0] 81)) c s):=H2.out.below ((Below.refl _ _).alloc (Nat.le_refl _) _)
  have G2b : Hid (Chg (· = c) w (w2.alloc (.cells #[.int .u32 x, .int .i64 0] 81))) := G2.out.alloc _
  have I2:=z0g w2 (.cells #[.int .u32 x,.int .i64 0] 81)
  obtain⟨ic,_,il⟩:=z0a I2
  have i0:=ic 0 (.int .u32 x) rfl
  have i1:=ic 1 (.int .i64 0) rfl
  clear H2 G2 ic
  go_wp2_with fail
  generalize w2.alloc (.cells #[.int .u32 x,.int .i64 0] 81)=V2 at *
  have nbg:w2.heap.size≠c:=by omega
  generalize w2.heap.size=bg at *
  refine Calls.mono (CG.out _) ?_
  rintro e w3 ⟨rfl,b3⟩
  have H3:Hid (z0i w3 c s):=H2b.out.below b3
  have G3 : Hid (Chg (· = c) w w3) := G2b.out.step b3
  have I3:=z0f I2 b3
  have q3:c<w3.heap.size:=H3.out.lt
  have q3':bg<w3.heap.size:=(Array.getElem?_eq_some_iff.1 I3).1
  clear b3 H2b G2b I2 i0 i1 il CG q2
  go_wp2_with fail
  have TT:Hid (Told w ((w3.alloc (.cells #[.string ⟨nm.toArray⟩,.int .i64 d,.int .i64 a,.int .i64 b,.int .i32 m,.bool true] 104)).alloc (.cells #[.string ⟨nm.toArray⟩,.int .i64 d,.int .i64 a,.int .i64 b,.int .i32 m] 52)) c s (w3.heap.size+1) bg nm d a b m x):=by
    refine⟨H3.out.below box2,(G3.out.alloc _).alloc _,?_,z0f I3 box2,by omega,nbg⟩
    have:=z0g (w3.alloc (.cells #[.string ⟨nm.toArray⟩,.int .i64 d,.int .i64 a,.int .i64 b,.int .i32 m,.bool true] 104)) (.cells #[.string ⟨nm.toArray⟩,.int .i64 d,.int .i64 a,.int .i64 b,.int .i32 m] 52)
    rwa [World.size_alloc] at this
  have TO:Hid (((w3.alloc (.cells #[.string ⟨nm.toArray⟩,.int .i64 d,.int .i64 a,.int .i64 b,.int .i32 m,.bool true] 104)).alloc (.cells #[.string ⟨nm.toArray⟩,.int .i64 d,.int .i64 a,.int .i64 b,.int .i32 m] 52)).heap[w3.heap.size]?=some (.cells #[.string ⟨nm.toArray⟩,.int .i64 d,.int .i64 a,.int .i64 b,.int .i32 m,.bool true] 104)):=z0m ((Below.refl _ _).alloc (Nat.le_refl _) _)
  clear H3 G3 I3 nbg
  generalize (w3.alloc (.cells #[.string ⟨nm.toArray⟩,.int .i64 d,.int .i64 a,.int .i64 b,.int .i32 m,.bool true] 104)).alloc (.cells #[.string ⟨nm.toArray⟩,.int .i64 d,.int .i64 a,.int .i64 b,.int .i32 m] 52)=V3 at *
  generalize w3.heap.size=bt at *
  refine Calls.mono (CK.out _) ?_
  rintro e w4 ⟨rfl,b4⟩
  have T4:Hid _:=TT.out.below b4
  have t5:=(z0a (z0f TO.out b4)).1 5 (.bool true) rfl
  have i0:=(z0a T4.out.ins).1 0 (.string ⟨nm.toArray⟩) rfl
  have i2:=(z0a T4.out.ins).1 2 (.int .i64 a) rfl
  have i3:=(z0a T4.out.ins).1 3 (.int .i64 b) rfl
  have i4:=(z0a T4.out.ins).1 4 (.int .i32 m) rfl
  have xa:=T4.out.core.x a hla
  have xb:=T4.out.core.x b hlb
  have c34:=T4.out.core.cell 34 (by decide)
  have e34:z0l s 34=.bool true:=by show Value.bool s.u=_;rw[hu']
  rw[e34] at c34
  clear b4 TT TO CK e34
  go_wp2_with fail
  --DBG
  go_quiet (fail)
  have T5:Hid _:=T4.out.below (z0u w4.heap.size w4 nq)
  have j0:=(z0a T5.out.ins).1 0 (.string ⟨nm.toArray⟩) rfl
  have j1:=(z0a T5.out.ins).1 1 (.int .i64 d) rfl
  have cr:=T5.out.core.x d hld
  have fr:=T5.out.core.free (1+d)
  clear T4 t5 i0 i2 i3 i4 xa xb c34
  generalize w4.drewN nq=W5 at *
  generalize bt+1=bi at *
  have HMU0:U32 (m%4294967296):=⟨by omega,by omega⟩
  generalize hmu:m%4294967296=mu at *
  have HMU:Hid (m%4294967296=mu):=hmu
  have HMV:Hid (U32 mu):=HMU0
  clear hmu HMU0
  have hn:=HNM.out
  clear HNM
  rcases hn with rfl | rfl | rfl | rfl | rfl | rfl
  · clear cr fr j1
    have H6:Hid (z0i W5 c s):=T5.out.core
    have G6 : Hid (Chg (· = c) w W5) := T5.out.chg
    go_wp2_with fail
    refine (z5u H6.out _ _ HT.out HT'.out).mono ?_
    rintro e w7 ⟨rfl,h7,g7⟩
    have H7:Hid _:=h7
    have G7:Hid _:=G6.out.trans g7
    clear h7 g7
    go_wp2
    go_end0
    refine⟨rfl,?_⟩
    rw[insC_beq,HMU.out]
    exact z0x HM.out H7.out G7.out rfl rfl
  · clear cr fr j1
    have H6:Hid (z0i W5 c s):=T5.out.core
    have G6 : Hid (Chg (· = c) w W5) := T5.out.chg
    go_wp2_with fail
    refine (z5u H6.out _ _ HT.out HT'.out).mono ?_
    rintro e w7 ⟨rfl,h7,g7⟩
    have H7:Hid _:=h7
    have G7:Hid _:=G6.out.trans g7
    clear h7 g7
    go_wp2
    go_end0
    refine⟨rfl,?_⟩
    rw[insC_bne,HMU.out]
    exact z0x HM.out H7.out G7.out rfl rfl
  · clear cr fr j1
    have fd:=fld0 (.int .u32 (opN [115,108,116] (s.f a) (s.f b))) (.int .i64 (opE [115,108,116]))
    have CO:Hid (∀ w,Calls Tryz.prog 54 #[.string ⟨#[115,108,116]⟩,.int .u32 (s.f a),.int .u32 (s.f b)] w fun e w'=>e=.returned (.agg #[.int .u32 (opN [115,108,116] (s.f a) (s.f b)),.int .i64 (opE [115,108,116])])∧Below w.heap.size w w'):=fun w=>by have:=rOp ⟨#[115,108,116]⟩ (s.f a) (s.f b) (HF.out.f a) (HF.out.f b) w;rw[ByteArray.toList_eq] at this;exact this
    generalize hN:opN [115,108,116] (s.f a) (s.f b)=N at *
    have HN:Hid _:=hN
    clear hN
    go_wp2_with fail
    refine (CO.out _).mono ?_
    rintro e w6 ⟨rfl,b6⟩
    have H6:Hid (z0i w6 c s):=T5.out.core.below b6
    have G6 : Hid (Chg (· = c) w w6) := T5.out.chg.step b6
    clear b6 CO
    go_wp2_with fail
    refine (z5u H6.out _ _ HT.out HT'.out).mono ?_
    rintro e w7 ⟨rfl,h7,g7⟩
    have H7:Hid _:=h7
    have G7:Hid _:=G6.out.trans g7
    clear h7 g7
    go_wp2
    go_end0
    refine⟨rfl,?_⟩
    rw[insC_blt,HN.out,HMU.out]
    exact z0x HM.out H7.out G7.out rfl rfl
  · clear cr fr j1
    have fd:=fld0 (.int .u32 (opN [115,108,116] (s.f a) (s.f b))) (.int .i64 (opE [115,108,116]))
    have CO:Hid (∀ w,Calls Tryz.prog 54 #[.string ⟨#[115,108,116]⟩,.int .u32 (s.f a),.int .u32 (s.f b)] w fun e w'=>e=.returned (.agg #[.int .u32 (opN [115,108,116] (s.f a) (s.f b)),.int .i64 (opE [115,108,116])])∧Below w.heap.size w w'):=fun w=>by have:=rOp ⟨#[115,108,116]⟩ (s.f a) (s.f b) (HF.out.f a) (HF.out.f b) w;rw[ByteArray.toList_eq] at this;exact this
    generalize hN:opN [115,108,116] (s.f a) (s.f b)=N at *
    have HN:Hid _:=hN
    clear hN
    go_wp2_with fail
    refine (CO.out _).mono ?_
    rintro e w6 ⟨rfl,b6⟩
    have H6:Hid (z0i w6 c s):=T5.out.core.below b6
    have G6 : Hid (Chg (· = c) w w6) := T5.out.chg.step b6
    clear b6 CO
    go_wp2_with fail
    refine (z5u H6.out _ _ HT.out HT'.out).mono ?_
    rintro e w7 ⟨rfl,h7,g7⟩
    have H7:Hid _:=h7
    have G7:Hid _:=G6.out.trans g7
    clear h7 g7
    go_wp2
    go_end0
    refine⟨rfl,?_⟩
    rw[insC_bge,HN.out,HMU.out]
    exact z0x HM.out H7.out G7.out rfl rfl
  · clear cr fr j1
    have H6:Hid (z0i W5 c s):=T5.out.core
    have G6 : Hid (Chg (· = c) w W5) := T5.out.chg
    go_wp2_with fail
    refine (z5u H6.out _ _ HT.out HT'.out).mono ?_
    rintro e w7 ⟨rfl,h7,g7⟩
    have H7:Hid _:=h7
    have G7:Hid _:=G6.out.trans g7
    clear h7 g7
    go_wp2
    go_end0
    refine⟨rfl,?_⟩
    rw[insC_bltu,HMU.out]
    exact z0x HM.out H7.out G7.out rfl rfl
  · clear cr fr j1
    have H6:Hid (z0i W5 c s):=T5.out.core
    have G6 : Hid (Chg (· = c) w W5) := T5.out.chg
    go_wp2_with fail
    refine (z5u H6.out _ _ HT.out HT'.out).mono ?_
    rintro e w7 ⟨rfl,h7,g7⟩
    have H7:Hid _:=h7
    have G7:Hid _:=G6.out.trans g7
    clear h7 g7
    go_wp2
    go_end0
    refine⟨rfl,?_⟩
    rw[insC_bgeu,HMU.out]
    exact z0x HM.out H7.out G7.out rfl rfl
theorem z6s {w : World} {c bm cap B : Nat} {s : CS} {l : List Int} {es : List Ev} (h : z1q w c bm cap B s l es) (hF : Fine s es) (hu : s.u = false) (hp : s.f 32 % 4 = 0) (ha : askV l.length (s.f 32) 4 = 0)
    (nm:List UInt8) (d a b:Nat) (m x:Int) (hx:z1l l (s.f 32) 4 false=x) (hg:getV (z1l l (s.f 32) 4 false)=some ⟨nm,d,a,b,m⟩) (hld:d<32) (hla:a<32) (hlb:b<32) (hn:nm=[108,98]∨nm=[108,104]∨nm=[108,119]∨nm=[108,98,117]∨nm=[108,104,117]) :
    Calls Tryz.prog 30 #[.pointer (some ⟨c,0,none⟩)] w fun e w'=>e=.returned (.tuple #[])∧Went w w' c bm cap B s (insC s l es ⟨nm,d,a,b,m⟩ x):=by
  have hu':=hu
  have HNM:Hid _:=hn
  clear hn
  have HM:Hid _:=h
  have HF:Hid _:=hF
  have HT:Hid (0≤s.t):=hF.t0
  have HT':Hid (s.t≤1152921504606846976):=by have:=hF.t1;show _≤_;omega
  have c33:=h.core.cell 33 (by decide)
  have e33:z0l s 33=.int .u32 (s.f 32):=rfl
  rw[e33] at c33
  have c34:=h.core.cell 34 (by decide)
  have e34:z0l s 34=.bool false:=by rw[← hu];rfl
  rw[e34] at c34
  have c0:=h.core.cell 0 (by decide)
  have e0:z0l s 0=.slice (some ⟨bm,0,none⟩) l.length cap:=h.mem.m
  rw[e0] at c0
  have t4:(s.f 32).tmod 4=s.f 32%4:=Int.tmod_eq_emod_of_nonneg (hF.f 32).1
  have p4:(s.f 32%4 != 0)=false:=by simpa using hp
  have CL:Hid _:=fun W hm hl=>z6p bm l.length cap l (s.f 32) 4 false h.mem.len (hF.f 32) h.mem.u W hm hl
  rw[ha,z2p ha] at CL
  have CG:Hid _:=z8g (z2l l (s.f 32) 4) hg
  have CK:Hid _:=z3j nm
  generalize (z0q nm).k=kk at *
  have HX:Hid (z1l l (s.f 32) 4 false=x):=hx
  rw[hx] at CL CG
  generalize hpc:s.f 32=pc at *
  have HPC:Hid (s.f 32=pc):=hpc
  have ha0:(0:Int)≤(a:Int):=by omega
  have ha1:(a:Int)<32:=by omega
  have hb0:(0:Int)≤(b:Int):=by omega
  have hb1:(b:Int)<32:=by omega
  have hd0:(0:Int)≤(d:Int):=by omega
  have hd1:(d:Int)<32:=by omega
  clear h hF hp ha hg hx hpc hu e33 e34 e0
  go_enter Tryz.func30,Tryz.ntmps30
  go_wp2_with fail
  refine Calls.mono (CL.out w HM.out.mem.mem HM.out.mem.lt) ?_
  rintro e w2 ⟨rfl,b2⟩
  have H2:Hid (z0i w2 c s):=HM.out.core.below b2
  have G2 : Hid (Chg (· = c) w w2) := Chg.of b2
  clear CL b2 c0
  have q2:c<w2.heap.size:=H2.out.lt
  have H2b:Hid (z0i (w2.alloc (.cells #[.int .u32 x,.int .i64 0] 81)) c s):=H2.out.below ((Below.refl _ _).alloc (Nat.le_refl _) _)
  have G2b : Hid (Chg (· = c) w (w2.alloc (.cells #[.int .u32 x, .int .i64 0] 81))) := G2.out.alloc _
  have I2:=z0g w2 (.cells #[.int .u32 x,.int .i64 0] 81)
  obtain⟨ic,_,il⟩:=z0a I2
  have i0:=ic 0 (.int .u32 x) rfl
  have i1:=ic 1 (.int .i64 0) rfl
  clear H2 G2 ic
  go_wp2_with fail
  generalize w2.alloc (.cells #[.int .u32 x,.int .i64 0] 81)=V2 at *
  have nbg:w2.heap.size≠c:=by omega
  generalize w2.heap.size=bg at *
  refine Calls.mono (CG.out _) ?_
  rintro e w3 ⟨rfl,b3⟩
  have H3:Hid (z0i w3 c s):=H2b.out.below b3
  have G3 : Hid (Chg (· = c) w w3) := G2b.out.step b3
  have I3:=z0f I2 b3
  have q3:c<w3.heap.size:=H3.out.lt
  have q3':bg<w3.heap.size:=(Array.getElem?_eq_some_iff.1 I3).1
  clear b3 H2b G2b I2 i0 i1 il CG q2
  go_wp2_with fail
  have TT:Hid (Told w ((w3.alloc (.cells #[.string ⟨nm.toArray⟩,.int .i64 d,.int .i64 a,.int .i64 b,.int .i32 m,.bool true] 104)).alloc (.cells #[.string ⟨nm.toArray⟩,.int .i64 d,.int .i64 a,.int .i64 b,.int .i32 m] 52)) c s (w3.heap.size+1) bg nm d a b m x):=by
    refine⟨H3.out.below box2,(G3.out.alloc _).alloc _,?_,z0f I3 box2,by omega,nbg⟩
    have:=z0g (w3.alloc (.cells #[.string ⟨nm.toArray⟩,.int .i64 d,.int .i64 a,.int .i64 b,.int .i32 m,.bool true] 104)) (.cells #[.string ⟨nm.toArray⟩,.int .i64 d,.int .i64 a,.int .i64 b,.int .i32 m] 52)
    rwa [World.size_alloc] at this
  have TO:Hid (((w3.alloc (.cells #[.string ⟨nm.toArray⟩,.int .i64 d,.int .i64 a,.int .i64 b,.int .i32 m,.bool true] 104)).alloc (.cells #[.string ⟨nm.toArray⟩,.int .i64 d,.int .i64 a,.int .i64 b,.int .i32 m] 52)).heap[w3.heap.size]?=some (.cells #[.string ⟨nm.toArray⟩,.int .i64 d,.int .i64 a,.int .i64 b,.int .i32 m,.bool true] 104)):=z0m ((Below.refl _ _).alloc (Nat.le_refl _) _)
  clear H3 G3 I3 nbg
  generalize (w3.alloc (.cells #[.string ⟨nm.toArray⟩,.int .i64 d,.int .i64 a,.int .i64 b,.int .i32 m,.bool true] 104)).alloc (.cells #[.string ⟨nm.toArray⟩,.int .i64 d,.int .i64 a,.int .i64 b,.int .i32 m] 52)=V3 at *
  generalize w3.heap.size=bt at *
  refine Calls.mono (CK.out _) ?_
  rintro e w4 ⟨rfl,b4⟩
  have T4:Hid _:=TT.out.below b4
  have t5:=(z0a (z0f TO.out b4)).1 5 (.bool true) rfl
  have i0:=(z0a T4.out.ins).1 0 (.string ⟨nm.toArray⟩) rfl
  have i2:=(z0a T4.out.ins).1 2 (.int .i64 a) rfl
  have i3:=(z0a T4.out.ins).1 3 (.int .i64 b) rfl
  have i4:=(z0a T4.out.ins).1 4 (.int .i32 m) rfl
  have xa:=T4.out.core.x a hla
  have xb:=T4.out.core.x b hlb
  have c34:=T4.out.core.cell 34 (by decide)
  have e34:z0l s 34=.bool false:=by show Value.bool s.u=_;rw[hu']
  rw[e34] at c34
  clear b4 TT TO CK e34
  go_wp2_with fail
  --DBG
  go_quiet (fail)
  have T5:Hid _:=T4.out.below (z0u w4.heap.size w4 nq)
  have j0:=(z0a T5.out.ins).1 0 (.string ⟨nm.toArray⟩) rfl
  have j1:=(z0a T5.out.ins).1 1 (.int .i64 d) rfl
  have cr:=T5.out.core.x d hld
  have fr:=T5.out.core.free (1+d)
  clear T4 t5 i0 i2 i3 i4 xa xb c34 c33
  generalize w4.drewN nq=W5 at *
  generalize bt+1=bi at *
  have HMU0:U32 (m%4294967296):=⟨by omega,by omega⟩
  generalize hmu:m%4294967296=mu at *
  have HMU:Hid (m%4294967296=mu):=hmu
  have HMV:Hid (U32 mu):=HMU0
  clear hmu HMU0
  have hn:=HNM.out
  clear HNM
  rcases hn with rfl | rfl | rfl | rfl | rfl
  · have HQ:Hid (U32 ((s.f a+mu)%4294967296)):=⟨by omega,by omega⟩
    clear cr fr
    go_wp2_with fail
    refine (dload T5.out.core (HM.out.mem.on T5.out.chg rfl) HF.out.f HT.out HT'.out d hld _ 1 HQ.out (by decide) true).mono ?_
    rintro e w7 ⟨rfl,h7,g7⟩
    have H7:Hid _:=h7
    have G7:Hid _:=T5.out.chg.trans g7
    clear h7 g7
    go_wp2
    go_end0
    refine⟨rfl,?_⟩
    rw[insC_lb,HMU.out]
    refine z0x HM.out H7.out G7.out ?_ ?_
    · unfold z3m;split <;> (try split) <;> rfl
    · unfold z3m;split <;> (try split) <;> rfl
  · have HQ:Hid (U32 ((s.f a+mu)%4294967296)):=⟨by omega,by omega⟩
    clear cr fr
    go_wp2_with fail
    refine (dload T5.out.core (HM.out.mem.on T5.out.chg rfl) HF.out.f HT.out HT'.out d hld _ 2 HQ.out (by decide) true).mono ?_
    rintro e w7 ⟨rfl,h7,g7⟩
    have H7:Hid _:=h7
    have G7:Hid _:=T5.out.chg.trans g7
    clear h7 g7
    go_wp2
    go_end0
    refine⟨rfl,?_⟩
    rw[insC_lh,HMU.out]
    refine z0x HM.out H7.out G7.out ?_ ?_
    · unfold z3m;split <;> (try split) <;> rfl
    · unfold z3m;split <;> (try split) <;> rfl
  · have HQ:Hid (U32 ((s.f a+mu)%4294967296)):=⟨by omega,by omega⟩
    clear cr fr
    go_wp2_with fail
    refine (dload T5.out.core (HM.out.mem.on T5.out.chg rfl) HF.out.f HT.out HT'.out d hld _ 4 HQ.out (by decide) true).mono ?_
    rintro e w7 ⟨rfl,h7,g7⟩
    have H7:Hid _:=h7
    have G7:Hid _:=T5.out.chg.trans g7
    clear h7 g7
    go_wp2
    go_end0
    refine⟨rfl,?_⟩
    rw[insC_lw,HMU.out]
    refine z0x HM.out H7.out G7.out ?_ ?_
    · unfold z3m;split <;> (try split) <;> rfl
    · unfold z3m;split <;> (try split) <;> rfl
  · have HQ:Hid (U32 ((s.f a+mu)%4294967296)):=⟨by omega,by omega⟩
    clear cr fr
    go_wp2_with fail
    refine (dload T5.out.core (HM.out.mem.on T5.out.chg rfl) HF.out.f HT.out HT'.out d hld _ 1 HQ.out (by decide) false).mono ?_
    rintro e w7 ⟨rfl,h7,g7⟩
    have H7:Hid _:=h7
    have G7:Hid _:=T5.out.chg.trans g7
    clear h7 g7
    go_wp2
    go_end0
    refine⟨rfl,?_⟩
    rw[insC_lbu,HMU.out]
    refine z0x HM.out H7.out G7.out ?_ ?_
    · unfold z3m;split <;> (try split) <;> rfl
    · unfold z3m;split <;> (try split) <;> rfl
  · have HQ:Hid (U32 ((s.f a+mu)%4294967296)):=⟨by omega,by omega⟩
    clear cr fr
    go_wp2_with fail
    refine (dload T5.out.core (HM.out.mem.on T5.out.chg rfl) HF.out.f HT.out HT'.out d hld _ 2 HQ.out (by decide) false).mono ?_
    rintro e w7 ⟨rfl,h7,g7⟩
    have H7:Hid _:=h7
    have G7:Hid _:=T5.out.chg.trans g7
    clear h7 g7
    go_wp2
    go_end0
    refine⟨rfl,?_⟩
    rw[insC_lhu,HMU.out]
    refine z0x HM.out H7.out G7.out ?_ ?_
    · unfold z3m;split <;> (try split) <;> rfl
    · unfold z3m;split <;> (try split) <;> rfl
theorem z7k {w : World} {c bm cap B : Nat} {s : CS} {l : List Int} {es : List Ev} (h : z1q w c bm cap B s l es) (hF : Fine s es) (hu : s.u = true) (hp : s.f 32 % 4 = 0) (ha : askV l.length (s.f 32) 4 = 0)
    (nm:List UInt8) (d a b:Nat) (m x:Int) (hx:z1l l (s.f 32) 4 false=x) (hg:getV (z1l l (s.f 32) 4 false)=some ⟨nm,d,a,b,m⟩) (hld:d<32) (hla:a<32) (hlb:b<32) (hal:z2m (ofV (gw s.f)) (s.f 32) 4 2=true) (hk67:¬(z0q nm).k=67) (hnm:¬nm=[109,114,101,116]) (hnw:¬nm=[119,102,105]) (hn:nm=[108,98]∨nm=[108,104]∨nm=[108,119]∨nm=[108,98,117]∨nm=[108,104,117]) :
    Calls Tryz.prog 30 #[.pointer (some ⟨c,0,none⟩)] w fun e w'=>e=.returned (.tuple #[])∧Went w w' c bm cap B s (insC s l es ⟨nm,d,a,b,m⟩ x):=by
  have hu':=hu
  have HNM:Hid _:=hn
  clear hn
  have HM:Hid _:=h
  have HF:Hid _:=hF
  have HT:Hid (0≤s.t):=hF.t0
  have HT':Hid (s.t≤1152921504606846976):=by have:=hF.t1;show _≤_;omega
  have c33:=h.core.cell 33 (by decide)
  have e33:z0l s 33=.int .u32 (s.f 32):=rfl
  rw[e33] at c33
  have c34:=h.core.cell 34 (by decide)
  have e34:z0l s 34=.bool true:=by rw[← hu];rfl
  rw[e34] at c34
  have c0:=h.core.cell 0 (by decide)
  have e0:z0l s 0=.slice (some ⟨bm,0,none⟩) l.length cap:=h.mem.m
  rw[e0] at c0
  have t4:(s.f 32).tmod 4=s.f 32%4:=Int.tmod_eq_emod_of_nonneg (hF.f 32).1
  have p4:(s.f 32%4 != 0)=false:=by simpa using hp
  have CL:Hid _:=fun W hm hl=>z6p bm l.length cap l (s.f 32) 4 false h.mem.len (hF.f 32) h.mem.u W hm hl
  rw[ha,z2p ha] at CL
  have CG:Hid _:=z8g (z2l l (s.f 32) 4) hg
  have CK:Hid _:=z3j nm
  have HG:Hid (∀ i,U32 (gw s.f i)):=fun i=>HF.out.f _
  have HP:Hid (U32 (s.f 32)):=hF.f 32
  have HAL:Hid _:=hal
  have k67:((z0q nm).k==67)=false:=by simpa using hk67
  have RG:Hid _:=z1x h.core
  have z1:(nm==[109,114,101,116])=false:=by rw[beq_eq_false_iff_ne];exact hnm
  have z2:(nm==[119,102,105])=false:=by rw[beq_eq_false_iff_ne];exact hnw
  have z3:((⟨nm.toArray⟩:ByteArray).toList==[109,114,101,116])=false:=by rw[ByteArray.toList_eq];exact z1
  have z4:((⟨nm.toArray⟩:ByteArray).toList==[119,102,105])=false:=by rw[ByteArray.toList_eq];exact z2
  clear hal hk67 hnm hnw
  generalize (z0q nm).k=kk at *
  have HX:Hid (z1l l (s.f 32) 4 false=x):=hx
  rw[hx] at CL CG
  generalize hpc:s.f 32=pc at *
  have HPC:Hid (s.f 32=pc):=hpc
  have ha0:(0:Int)≤(a:Int):=by omega
  have ha1:(a:Int)<32:=by omega
  have hb0:(0:Int)≤(b:Int):=by omega
  have hb1:(b:Int)<32:=by omega
  have hd0:(0:Int)≤(d:Int):=by omega
  have hd1:(d:Int)<32:=by omega
  clear h hF hp ha hg hx hpc hu e33 e34 e0
  go_enter Tryz.func30,Tryz.ntmps30
  go_wp2_with (first | (refine z0w (by rfl) 30 (.tmp 30) rfl c 42 rfl (z2n (gw s.f)) _ RG.out z7e rfl (by rw[z1r];exact z4r) ?_))
  refine (rOf _ HG.out _).mono ?_
  rintro e v4 ⟨g,cg,rfl,-,-,hcg,hreg,b4⟩
  have B4:Hid _:=b4
  have RR:Hid _:=hreg
  clear hreg b4 hcg RG
  go_wp2_with fail
  refine (z6a RR.out (z8q HG.out) 8 cg rfl (by decide) pc 4 2 HP.out ⟨by decide,by decide⟩).mono ?_
  rintro e v5 ⟨rfl,b5⟩
  rw[HAL.out]
  have B5:Hid (Below w.heap.size w v5):=z0e B4.out b5
  clear b5 B4 RR HAL
  have M5:Hid (z0i v5 c s):=HM.out.core.below B5.out
  have N5:Hid _:=HM.out.mem.on (Chg.of B5.out) rfl
  have c0:=M5.out.cell 0 (by decide)
  have e0:z0l s 0=.slice (some ⟨bm,0,none⟩) l.length cap:=HM.out.mem.m
  rw[e0] at c0
  clear c33 c34 e0
  go_wp2_with fail
  refine Calls.mono (CL.out v5 N5.out.mem N5.out.lt) ?_
  rintro e w2 ⟨rfl,b2⟩
  have H2:Hid (z0i w2 c s):=M5.out.below b2
  have G2 : Hid (Chg (· = c) w w2) := (Chg.of B5.out).step b2
  clear M5 N5 B5
  clear CL b2 c0
  have q2:c<w2.heap.size:=H2.out.lt
  have H2b:Hid (z0i (w2.alloc (.cells #[.int .u32 x,.int .i64 0] 81)) c s):=H2.out.below ((Below.refl _ _).alloc (Nat.le_refl _) _)
  have G2b : Hid (Chg (· = c) w (w2.alloc (.cells #[.int .u32 x, .int .i64 0] 81))) := G2.out.alloc _
  have I2:=z0g w2 (.cells #[.int .u32 x,.int .i64 0] 81)
  obtain⟨ic,_,il⟩:=z0a I2
  have i0:=ic 0 (.int .u32 x) rfl
  have i1:=ic 1 (.int .i64 0) rfl
  clear H2 G2 ic
  go_wp2_with fail
  generalize w2.alloc (.cells #[.int .u32 x,.int .i64 0] 81)=V2 at *
  have nbg:w2.heap.size≠c:=by omega
  generalize w2.heap.size=bg at *
  refine Calls.mono (CG.out _) ?_
  rintro e w3 ⟨rfl,b3⟩
  have H3:Hid (z0i w3 c s):=H2b.out.below b3
  have G3 : Hid (Chg (· = c) w w3) := G2b.out.step b3
  have I3:=z0f I2 b3
  have q3:c<w3.heap.size:=H3.out.lt
  have q3':bg<w3.heap.size:=(Array.getElem?_eq_some_iff.1 I3).1
  clear b3 H2b G2b I2 i0 i1 il CG q2
  go_wp2_with fail
  have TT:Hid (Told w ((w3.alloc (.cells #[.string ⟨nm.toArray⟩,.int .i64 d,.int .i64 a,.int .i64 b,.int .i32 m,.bool true] 104)).alloc (.cells #[.string ⟨nm.toArray⟩,.int .i64 d,.int .i64 a,.int .i64 b,.int .i32 m] 52)) c s (w3.heap.size+1) bg nm d a b m x):=by
    refine⟨H3.out.below box2,(G3.out.alloc _).alloc _,?_,z0f I3 box2,by omega,nbg⟩
    have:=z0g (w3.alloc (.cells #[.string ⟨nm.toArray⟩,.int .i64 d,.int .i64 a,.int .i64 b,.int .i32 m,.bool true] 104)) (.cells #[.string ⟨nm.toArray⟩,.int .i64 d,.int .i64 a,.int .i64 b,.int .i32 m] 52)
    rwa [World.size_alloc] at this
  have TO:Hid (((w3.alloc (.cells #[.string ⟨nm.toArray⟩,.int .i64 d,.int .i64 a,.int .i64 b,.int .i32 m,.bool true] 104)).alloc (.cells #[.string ⟨nm.toArray⟩,.int .i64 d,.int .i64 a,.int .i64 b,.int .i32 m] 52)).heap[w3.heap.size]?=some (.cells #[.string ⟨nm.toArray⟩,.int .i64 d,.int .i64 a,.int .i64 b,.int .i32 m,.bool true] 104)):=z0m ((Below.refl _ _).alloc (Nat.le_refl _) _)
  clear H3 G3 I3 nbg
  generalize (w3.alloc (.cells #[.string ⟨nm.toArray⟩,.int .i64 d,.int .i64 a,.int .i64 b,.int .i32 m,.bool true] 104)).alloc (.cells #[.string ⟨nm.toArray⟩,.int .i64 d,.int .i64 a,.int .i64 b,.int .i32 m] 52)=V3 at *
  generalize w3.heap.size=bt at *
  refine Calls.mono (CK.out _) ?_
  rintro e w4 ⟨rfl,b4⟩
  have T4:Hid _:=TT.out.below b4
  have t5:=(z0a (z0f TO.out b4)).1 5 (.bool true) rfl
  have i0:=(z0a T4.out.ins).1 0 (.string ⟨nm.toArray⟩) rfl
  have i2:=(z0a T4.out.ins).1 2 (.int .i64 a) rfl
  have i3:=(z0a T4.out.ins).1 3 (.int .i64 b) rfl
  have i4:=(z0a T4.out.ins).1 4 (.int .i32 m) rfl
  have xa:=T4.out.core.x a hla
  have xb:=T4.out.core.x b hlb
  have c34:=T4.out.core.cell 34 (by decide)
  have e34:z0l s 34=.bool true:=by show Value.bool s.u=_;rw[hu']
  rw[e34] at c34
  clear b4 TT TO CK e34
  go_wp2_with fail
  --DBG
  go_quiet (fail)
  have T5:Hid _:=T4.out.below (z0u w4.heap.size w4 nq)
  have j0:=(z0a T5.out.ins).1 0 (.string ⟨nm.toArray⟩) rfl
  have j1:=(z0a T5.out.ins).1 1 (.int .i64 d) rfl
  have cr:=T5.out.core.x d hld
  have fr:=T5.out.core.free (1+d)
  clear T4 t5 i0 i2 i3 i4 xa xb c34
  generalize w4.drewN nq=W5 at *
  generalize bt+1=bi at *
  have HMU0:U32 (m%4294967296):=⟨by omega,by omega⟩
  generalize hmu:m%4294967296=mu at *
  have HMU:Hid (m%4294967296=mu):=hmu
  have HMV:Hid (U32 mu):=HMU0
  clear hmu HMU0
  have hn:=HNM.out
  clear HNM
  rcases hn with rfl | rfl | rfl | rfl | rfl
  · have HQ:Hid (U32 ((s.f a+mu)%4294967296)):=⟨by omega,by omega⟩
    clear cr fr
    go_wp2_with fail
    refine (dload T5.out.core (HM.out.mem.on T5.out.chg rfl) HF.out.f HT.out HT'.out d hld _ 1 HQ.out (by decide) true).mono ?_
    rintro e w7 ⟨rfl,h7,g7⟩
    have H7:Hid _:=h7
    have G7:Hid _:=T5.out.chg.trans g7
    clear h7 g7
    go_wp2
    go_end0
    refine⟨rfl,?_⟩
    rw[insC_lb,HMU.out]
    refine z0x HM.out H7.out G7.out ?_ ?_
    · unfold z3m;split <;> (try split) <;> rfl
    · unfold z3m;split <;> (try split) <;> rfl
  · have HQ:Hid (U32 ((s.f a+mu)%4294967296)):=⟨by omega,by omega⟩
    clear cr fr
    go_wp2_with fail
    refine (dload T5.out.core (HM.out.mem.on T5.out.chg rfl) HF.out.f HT.out HT'.out d hld _ 2 HQ.out (by decide) true).mono ?_
    rintro e w7 ⟨rfl,h7,g7⟩
    have H7:Hid _:=h7
    have G7:Hid _:=T5.out.chg.trans g7
    clear h7 g7
    go_wp2
    go_end0
    refine⟨rfl,?_⟩
    rw[insC_lh,HMU.out]
    refine z0x HM.out H7.out G7.out ?_ ?_
    · unfold z3m;split <;> (try split) <;> rfl
    · unfold z3m;split <;> (try split) <;> rfl
  · have HQ:Hid (U32 ((s.f a+mu)%4294967296)):=⟨by omega,by omega⟩
    clear cr fr
    go_wp2_with fail
    refine (dload T5.out.core (HM.out.mem.on T5.out.chg rfl) HF.out.f HT.out HT'.out d hld _ 4 HQ.out (by decide) true).mono ?_
    rintro e w7 ⟨rfl,h7,g7⟩
    have H7:Hid _:=h7
    have G7:Hid _:=T5.out.chg.trans g7
    clear h7 g7
    go_wp2
    go_end0
    refine⟨rfl,?_⟩
    rw[insC_lw,HMU.out]
    refine z0x HM.out H7.out G7.out ?_ ?_
    · unfold z3m;split <;> (try split) <;> rfl
    · unfold z3m;split <;> (try split) <;> rfl
  · have HQ:Hid (U32 ((s.f a+mu)%4294967296)):=⟨by omega,by omega⟩
    clear cr fr
    go_wp2_with fail
    refine (dload T5.out.core (HM.out.mem.on T5.out.chg rfl) HF.out.f HT.out HT'.out d hld _ 1 HQ.out (by decide) false).mono ?_
    rintro e w7 ⟨rfl,h7,g7⟩
    have H7:Hid _:=h7
    have G7:Hid _:=T5.out.chg.trans g7
    clear h7 g7
    go_wp2
    go_end0
    refine⟨rfl,?_⟩
    rw[insC_lbu,HMU.out]
    refine z0x HM.out H7.out G7.out ?_ ?_
    · unfold z3m;split <;> (try split) <;> rfl
    · unfold z3m;split <;> (try split) <;> rfl
  · have HQ:Hid (U32 ((s.f a+mu)%4294967296)):=⟨by omega,by omega⟩
    clear cr fr
    go_wp2_with fail
    refine (dload T5.out.core (HM.out.mem.on T5.out.chg rfl) HF.out.f HT.out HT'.out d hld _ 2 HQ.out (by decide) false).mono ?_
    rintro e w7 ⟨rfl,h7,g7⟩
    have H7:Hid _:=h7
    have G7:Hid _:=T5.out.chg.trans g7
    clear h7 g7
    go_wp2
    go_end0
    refine⟨rfl,?_⟩
    rw[insC_lhu,HMU.out]
    refine z0x HM.out H7.out G7.out ?_ ?_
    · unfold z3m;split <;> (try split) <;> rfl
    · unfold z3m;split <;> (try split) <;> rfl
end Go.Proofs.YtbmnmbkgdalkcaaGreatDoor
