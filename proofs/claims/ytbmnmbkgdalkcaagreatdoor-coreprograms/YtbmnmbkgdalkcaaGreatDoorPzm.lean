/-
  Contracts of functions that the statement reaches, and what they are made of, callees first.
-/
import Derived.Deep.AppendLies
import Derived.Test.YtbmnmbkgdalkcaaGreatDoorPzb
import Derived.Test.YtbmnmbkgdalkcaaGreatDoorPzh
import Derived.Test.YtbmnmbkgdalkcaaGreatDoorPzk
import Derived.Test.YtbmnmbkgdalkcaaGreatDoorPzl
import Derived.Test.YtbmnmbkgdalkcaaGreatDoorPzq
import Derived.Test.YtbmnmbkgdalkcaaGreatDoorPzr
set_option maxRecDepth 100000
set_option maxHeartbeats 8000000
namespace Go.Proofs.YtbmnmbkgdalkcaaGreatDoor
open Go.RowKit
section
variable {w:World} {c ma mb mc gl B:Nat} {s:CS} {l:List Int} {es:List Ev} {late:List Int}
structure z8c (r:Option (Int × Int)) (o:St) (w:World) (c ma mb mc gl B:Nat) (s:CS) (late:List Int) (e:Ending) (w':World):Prop where
 core:∃ ev,z0v w' c ma mb mc gl B { o.1 with ev:=ev } o.2.1 o.2.2 late∧∀ k,ev.ownBlock=some k→s.ev.ownBlock=some k∨w.heap.size≤k
 ok:r=none→e=.returned (.pointer none)
 no:∀ k v,r=some (k,v)→∃ g,e=.returned (.pointer (some ⟨g,0,none⟩))∧w.heap.size≤g∧z9f w' g k v
 chg:Chg (fun k=>k=c∨k=mb∨s.ev.ownBlock=some k) w w'
def pc4 (s:CS):CS:={ s with f:=set1 s.f 32 ((s.f 32+4)%4294967296) }
theorem z8j (a:Option Addr) (w:World):(binOp .eql 92 (.pointer a) (.pointer none)).run Tryz.prog w=.ok (.bool a.isNone) w:=by cases a <;> kernel_rfl
theorem z0v.pc (h:z0v w c ma mb mc gl B s l es late):z0v (w.setCell ⟨c,33,none⟩ (.int .u32 ((s.f 32+4)%4294967296))) c ma mb mc gl B (pc4 s) l es late:=
 h.own (h.core.put 33 _ (fun j _=>lg_reg s 32 (by decide) (by decide) _ j)) ((Chg.refl _ _).own _) rfl rfl rfl rfl h.x0
theorem Chg.three {w w' : World} {c mb : Nat} {v : Value} (h : Chg (· = c) w w') : Chg (fun k => k = c ∨ k = mb ∨ v.ownBlock = some k) w w' := h.mono fun _ _ e => Or.inl e
theorem ldo_R1 {w : World} {c ma mb mc gl B : Nat} {s : CS} {l : List Int} {es : List Ev} {late : List Int} (h : z0v w c ma mb mc gl B s l es late) (hf : ∀ i, U32 (s.f i)) (nm : List UInt8) (hnm : nm ∈ z1w) (hk : z1o nm = (1, 2)) (d a b : Nat) (hd : d < 32) (ha : a < 32) (hb : b < 32) (m x : Int) (T : CS) (hT : T = setL s d (opN nm (s.f a) (s.f b))) :
    Calls Tryz.prog 44 #[.pointer (some ⟨c,0,none⟩),.agg #[.string ⟨nm.toArray⟩,.int .i64 d,.int .i64 a,.int .i64 b,.int .i32 m],.int .u32 x] w fun e w'=>z8c none (pc4 T,l,es) w c ma mb mc gl B s late e w':=by
  have CS:Hid _:=z5e nm hnm
  rw[hk] at CS
  have hfd:=fun w=>fldS (.int .i64 1) (.int .i64 2) w
  have hq:=z8j
  have HC:Hid _:=h
  have HF:Hid _:=hf
  have HNM:Hid _:=hnm
  have HK:Hid _:=hk
  have HD:Hid _:=hd
  have HA:Hid _:=ha
  have HB:Hid _:=hb
  have HT:Hid _:=hT
  clear hT
  clear h hf hnm hk hd ha hb
  go_enter Tryz.func44,Tryz.ntmps44
  go_wp2_with fail
  have I1:=z0g w (.cells #[.string ⟨nm.toArray⟩,.int .i64 d,.int .i64 a,.int .i64 b,.int .i32 m] 52)
  have H1:Hid (z0v (w.alloc (.cells #[.string ⟨nm.toArray⟩,.int .i64 d,.int .i64 a,.int .i64 b,.int .i32 m] 52)) c ma mb mc gl B s l es late):=HC.out.below ((Below.refl _ _).alloc (Nat.le_refl _) _)
  have G1:Hid (Below w.heap.size w (w.alloc (.cells #[.string ⟨nm.toArray⟩,.int .i64 d,.int .i64 a,.int .i64 b,.int .i32 m] 52))):=(Below.refl _ _).alloc (Nat.le_refl _) _
  generalize w.alloc (.cells #[.string ⟨nm.toArray⟩,.int .i64 d,.int .i64 a,.int .i64 b,.int .i32 m] 52)=W1 at *
  generalize hws:w.heap.size=bi at *
  refine (CS.out _).mono ?_
  rintro e w2 ⟨rfl,b2⟩
  have H2:Hid (z0v w2 c ma mb mc gl B s l es late):=H1.out.below b2
  have G2:Hid (Below w.heap.size w w2):=z0e (by rw[hws];exact G1.out) b2
  obtain⟨ic,_,_⟩:=z0a (z0f I1 b2)
  have i0:=ic 0 (.string ⟨nm.toArray⟩) rfl
  have i1:=ic 1 (.int .i64 d) rfl
  have i2:=ic 2 (.int .i64 a) rfl
  have i3:=ic 3 (.int .i64 b) rfl
  have i4:=ic 4 (.int .i32 m) rfl
  clear b2 CS H1 G1 I1 ic
  go_wp2_with fail
  refine (loperate_R H2.out.core HF.out nm HNM.out (by rw[HK.out]) d a b HD.out HA.out HB.out m).mono ?_
  rintro e w3 ⟨rfl,h3,g3⟩
  have E4:T.m=s.m∧T.la=s.la∧T.came=s.came∧T.ev=s.ev:=by rw[HT.out];exact z3n _ _ _
  have E0:T.f 0=0:=by rw[HT.out];exact (z8n H2.out.x0 _ _)
  have H4:Hid (z0v w3 c ma mb mc gl B T l es late):=H2.out.own (by rw[HT.out];exact h3) g3 E4.1 E4.2.1 E4.2.2.1 E4.2.2.2 E0
  have GP : Hid (Chg (· = c) w w3) := (Chg.of G2.out).trans g3
  have EV:Hid (∀ k,T.ev.ownBlock=some k→s.ev.ownBlock=some k):=fun k hk=>by rw[← E4.2.2.2];exact hk
  clear h3 g3 i0 i1 i2 i3 i4 H2 HT E4 E0
  have HP:Hid _:=H4.out.pc
  have c33:=H4.out.core.cell 33 (by decide)
  have f33:=H4.out.core.free 33
  have e33:z1a T 33=.int .u32 (T.f 32):=rfl
  rw[e33] at c33
  clear e33
  obtain⟨q,hq2⟩:∃ q,q=T.f 32:=⟨_,rfl⟩
  rw[← hq2] at c33 HP
  clear hq2
  go_wp2
  go_ret
  exact⟨⟨_,HP.out,fun k hk=>Or.inl (EV.out k hk)⟩,fun _=>rfl,fun _ _ h=>(by cases h),(GP.out.own _).three⟩
theorem ldo_R2 {w : World} {c ma mb mc gl B : Nat} {s : CS} {l : List Int} {es : List Ev} {late : List Int} (h : z0v w c ma mb mc gl B s l es late) (hf : ∀ i, U32 (s.f i)) (nm : List UInt8) (hnm : nm ∈ z1w) (hk : z1o nm = (2, 2)) (d a b : Nat) (hd : d < 32) (ha : a < 32) (hb : b < 32) (m x : Int) (T : CS) (hT : T = setL s d (opN nm (s.f a) (s.f b))) :
    Calls Tryz.prog 44 #[.pointer (some ⟨c,0,none⟩),.agg #[.string ⟨nm.toArray⟩,.int .i64 d,.int .i64 a,.int .i64 b,.int .i32 m],.int .u32 x] w fun e w'=>z8c none (pc4 T,l,es) w c ma mb mc gl B s late e w':=by
  have CS:Hid _:=z5e nm hnm
  rw[hk] at CS
  have hfd:=fun w=>fldS (.int .i64 2) (.int .i64 2) w
  have hq:=z8j
  have HC:Hid _:=h
  have HF:Hid _:=hf
  have HNM:Hid _:=hnm
  have HK:Hid _:=hk
  have HD:Hid _:=hd
  have HA:Hid _:=ha
  have HB:Hid _:=hb
  have HT:Hid _:=hT
  clear hT
  clear h hf hnm hk hd ha hb
  go_enter Tryz.func44,Tryz.ntmps44
  go_wp2_with fail
  have I1:=z0g w (.cells #[.string ⟨nm.toArray⟩,.int .i64 d,.int .i64 a,.int .i64 b,.int .i32 m] 52)
  have H1:Hid (z0v (w.alloc (.cells #[.string ⟨nm.toArray⟩,.int .i64 d,.int .i64 a,.int .i64 b,.int .i32 m] 52)) c ma mb mc gl B s l es late):=HC.out.below ((Below.refl _ _).alloc (Nat.le_refl _) _)
  have G1:Hid (Below w.heap.size w (w.alloc (.cells #[.string ⟨nm.toArray⟩,.int .i64 d,.int .i64 a,.int .i64 b,.int .i32 m] 52))):=(Below.refl _ _).alloc (Nat.le_refl _) _
  generalize w.alloc (.cells #[.string ⟨nm.toArray⟩,.int .i64 d,.int .i64 a,.int .i64 b,.int .i32 m] 52)=W1 at *
  generalize hws:w.heap.size=bi at *
  refine (CS.out _).mono ?_
  rintro e w2 ⟨rfl,b2⟩
  have H2:Hid (z0v w2 c ma mb mc gl B s l es late):=H1.out.below b2
  have G2:Hid (Below w.heap.size w w2):=z0e (by rw[hws];exact G1.out) b2
  obtain⟨ic,_,_⟩:=z0a (z0f I1 b2)
  have i0:=ic 0 (.string ⟨nm.toArray⟩) rfl
  have i1:=ic 1 (.int .i64 d) rfl
  have i2:=ic 2 (.int .i64 a) rfl
  have i3:=ic 3 (.int .i64 b) rfl
  have i4:=ic 4 (.int .i32 m) rfl
  clear b2 CS H1 G1 I1 ic
  go_wp2_with fail
  refine (loperate_R H2.out.core HF.out nm HNM.out (by rw[HK.out]) d a b HD.out HA.out HB.out m).mono ?_
  rintro e w3 ⟨rfl,h3,g3⟩
  have E4:T.m=s.m∧T.la=s.la∧T.came=s.came∧T.ev=s.ev:=by rw[HT.out];exact z3n _ _ _
  have E0:T.f 0=0:=by rw[HT.out];exact (z8n H2.out.x0 _ _)
  have H4:Hid (z0v w3 c ma mb mc gl B T l es late):=H2.out.own (by rw[HT.out];exact h3) g3 E4.1 E4.2.1 E4.2.2.1 E4.2.2.2 E0
  have GP : Hid (Chg (· = c) w w3) := (Chg.of G2.out).trans g3
  have EV:Hid (∀ k,T.ev.ownBlock=some k→s.ev.ownBlock=some k):=fun k hk=>by rw[← E4.2.2.2];exact hk
  clear h3 g3 i0 i1 i2 i3 i4 H2 HT E4 E0
  have HP:Hid _:=H4.out.pc
  have c33:=H4.out.core.cell 33 (by decide)
  have f33:=H4.out.core.free 33
  have e33:z1a T 33=.int .u32 (T.f 32):=rfl
  rw[e33] at c33
  clear e33
  obtain⟨q,hq2⟩:∃ q,q=T.f 32:=⟨_,rfl⟩
  rw[← hq2] at c33 HP
  clear hq2
  go_wp2
  go_ret
  exact⟨⟨_,HP.out,fun k hk=>Or.inl (EV.out k hk)⟩,fun _=>rfl,fun _ _ h=>(by cases h),(GP.out.own _).three⟩
theorem ldo_R3 {w : World} {c ma mb mc gl B : Nat} {s : CS} {l : List Int} {es : List Ev} {late : List Int} (h : z0v w c ma mb mc gl B s l es late) (hf : ∀ i, U32 (s.f i)) (nm : List UInt8) (hnm : nm ∈ z1w) (hk : z1o nm = (3, 2)) (d a b : Nat) (hd : d < 32) (ha : a < 32) (hb : b < 32) (m x : Int) (T : CS) (hT : T = setL s d (opN nm (s.f a) (s.f b))) :
    Calls Tryz.prog 44 #[.pointer (some ⟨c,0,none⟩),.agg #[.string ⟨nm.toArray⟩,.int .i64 d,.int .i64 a,.int .i64 b,.int .i32 m],.int .u32 x] w fun e w'=>z8c none (pc4 T,l,es) w c ma mb mc gl B s late e w':=by
  have CS:Hid _:=z5e nm hnm
  rw[hk] at CS
  have hfd:=fun w=>fldS (.int .i64 3) (.int .i64 2) w
  have hq:=z8j
  have HC:Hid _:=h
  have HF:Hid _:=hf
  have HNM:Hid _:=hnm
  have HK:Hid _:=hk
  have HD:Hid _:=hd
  have HA:Hid _:=ha
  have HB:Hid _:=hb
  have HT:Hid _:=hT
  clear hT
  clear h hf hnm hk hd ha hb
  go_enter Tryz.func44,Tryz.ntmps44
  go_wp2_with fail
  have I1:=z0g w (.cells #[.string ⟨nm.toArray⟩,.int .i64 d,.int .i64 a,.int .i64 b,.int .i32 m] 52)
  have H1:Hid (z0v (w.alloc (.cells #[.string ⟨nm.toArray⟩,.int .i64 d,.int .i64 a,.int .i64 b,.int .i32 m] 52)) c ma mb mc gl B s l es late):=HC.out.below ((Below.refl _ _).alloc (Nat.le_refl _) _)
  have G1:Hid (Below w.heap.size w (w.alloc (.cells #[.string ⟨nm.toArray⟩,.int .i64 d,.int .i64 a,.int .i64 b,.int .i32 m] 52))):=(Below.refl _ _).alloc (Nat.le_refl _) _
  generalize w.alloc (.cells #[.string ⟨nm.toArray⟩,.int .i64 d,.int .i64 a,.int .i64 b,.int .i32 m] 52)=W1 at *
  generalize hws:w.heap.size=bi at *
  refine (CS.out _).mono ?_
  rintro e w2 ⟨rfl,b2⟩
  have H2:Hid (z0v w2 c ma mb mc gl B s l es late):=H1.out.below b2
  have G2:Hid (Below w.heap.size w w2):=z0e (by rw[hws];exact G1.out) b2
  obtain⟨ic,_,_⟩:=z0a (z0f I1 b2)
  have i0:=ic 0 (.string ⟨nm.toArray⟩) rfl
  have i1:=ic 1 (.int .i64 d) rfl
  have i2:=ic 2 (.int .i64 a) rfl
  have i3:=ic 3 (.int .i64 b) rfl
  have i4:=ic 4 (.int .i32 m) rfl
  clear b2 CS H1 G1 I1 ic
  go_wp2_with fail
  refine (loperate_R H2.out.core HF.out nm HNM.out (by rw[HK.out]) d a b HD.out HA.out HB.out m).mono ?_
  rintro e w3 ⟨rfl,h3,g3⟩
  have E4:T.m=s.m∧T.la=s.la∧T.came=s.came∧T.ev=s.ev:=by rw[HT.out];exact z3n _ _ _
  have E0:T.f 0=0:=by rw[HT.out];exact (z8n H2.out.x0 _ _)
  have H4:Hid (z0v w3 c ma mb mc gl B T l es late):=H2.out.own (by rw[HT.out];exact h3) g3 E4.1 E4.2.1 E4.2.2.1 E4.2.2.2 E0
  have GP : Hid (Chg (· = c) w w3) := (Chg.of G2.out).trans g3
  have EV:Hid (∀ k,T.ev.ownBlock=some k→s.ev.ownBlock=some k):=fun k hk=>by rw[← E4.2.2.2];exact hk
  clear h3 g3 i0 i1 i2 i3 i4 H2 HT E4 E0
  have HP:Hid _:=H4.out.pc
  have c33:=H4.out.core.cell 33 (by decide)
  have f33:=H4.out.core.free 33
  have e33:z1a T 33=.int .u32 (T.f 32):=rfl
  rw[e33] at c33
  clear e33
  obtain⟨q,hq2⟩:∃ q,q=T.f 32:=⟨_,rfl⟩
  rw[← hq2] at c33 HP
  clear hq2
  go_wp2
  go_ret
  exact⟨⟨_,HP.out,fun k hk=>Or.inl (EV.out k hk)⟩,fun _=>rfl,fun _ _ h=>(by cases h),(GP.out.own _).three⟩
theorem ldo_I {w : World} {c ma mb mc gl B : Nat} {s : CS} {l : List Int} {es : List Ev} {late : List Int} (h : z0v w c ma mb mc gl B s l es late) (hf : ∀ i, U32 (s.f i)) (nm : List UInt8) (hnm : nm ∈ z1w) (hk : z1o nm = (1, 3)) (d a b : Nat) (hd : d < 32) (ha : a < 32) (hb : b < 32) (m x : Int) (pre post : List UInt8) (hs : nm = pre ++ 105 :: post) (hp : (105 : UInt8) ∉ pre) (hq1 : (105 : UInt8) ∉ post) (hl : pre.length ≤ 100) (hl2 : post.length ≤ 100) (T : CS) (hT : T = setL s d (opN (pre ++ post) (s.f a) (m % 4294967296))) :
    Calls Tryz.prog 44 #[.pointer (some ⟨c,0,none⟩),.agg #[.string ⟨nm.toArray⟩,.int .i64 d,.int .i64 a,.int .i64 b,.int .i32 m],.int .u32 x] w fun e w'=>z8c none (pc4 T,l,es) w c ma mb mc gl B s late e w':=by
  have CS:Hid _:=z5e nm hnm
  rw[hk] at CS
  have hfd:=fun w=>fldS (.int .i64 1) (.int .i64 3) w
  have hq:=z8j
  have HC:Hid _:=h
  have HF:Hid _:=hf
  have HNM:Hid _:=hnm
  have HK:Hid _:=hk
  have HD:Hid _:=hd
  have HA:Hid _:=ha
  have HB:Hid _:=hb
  have HT:Hid _:=hT
  clear hT
  have HSS:Hid _:=And.intro hs (And.intro hp (And.intro hq1 (And.intro hl hl2)))
  clear hs hp hq1 hl hl2
  clear h hf hnm hk hd ha hb
  go_enter Tryz.func44,Tryz.ntmps44
  go_wp2_with fail
  have I1:=z0g w (.cells #[.string ⟨nm.toArray⟩,.int .i64 d,.int .i64 a,.int .i64 b,.int .i32 m] 52)
  have H1:Hid (z0v (w.alloc (.cells #[.string ⟨nm.toArray⟩,.int .i64 d,.int .i64 a,.int .i64 b,.int .i32 m] 52)) c ma mb mc gl B s l es late):=HC.out.below ((Below.refl _ _).alloc (Nat.le_refl _) _)
  have G1:Hid (Below w.heap.size w (w.alloc (.cells #[.string ⟨nm.toArray⟩,.int .i64 d,.int .i64 a,.int .i64 b,.int .i32 m] 52))):=(Below.refl _ _).alloc (Nat.le_refl _) _
  generalize w.alloc (.cells #[.string ⟨nm.toArray⟩,.int .i64 d,.int .i64 a,.int .i64 b,.int .i32 m] 52)=W1 at *
  generalize hws:w.heap.size=bi at *
  refine (CS.out _).mono ?_
  rintro e w2 ⟨rfl,b2⟩
  have H2:Hid (z0v w2 c ma mb mc gl B s l es late):=H1.out.below b2
  have G2:Hid (Below w.heap.size w w2):=z0e (by rw[hws];exact G1.out) b2
  obtain⟨ic,_,_⟩:=z0a (z0f I1 b2)
  have i0:=ic 0 (.string ⟨nm.toArray⟩) rfl
  have i1:=ic 1 (.int .i64 d) rfl
  have i2:=ic 2 (.int .i64 a) rfl
  have i3:=ic 3 (.int .i64 b) rfl
  have i4:=ic 4 (.int .i32 m) rfl
  clear b2 CS H1 G1 I1 ic
  go_wp2_with fail
  refine (loperate_I H2.out.core HF.out nm HNM.out (by rw[HK.out]) pre post HSS.out.1 HSS.out.2.1 HSS.out.2.2.1 HSS.out.2.2.2.1 HSS.out.2.2.2.2 d a b HD.out HA.out HB.out m).mono ?_
  rintro e w3 ⟨rfl,h3,g3⟩
  have E4:T.m=s.m∧T.la=s.la∧T.came=s.came∧T.ev=s.ev:=by rw[HT.out];exact z3n _ _ _
  have E0:T.f 0=0:=by rw[HT.out];exact (z8n H2.out.x0 _ _)
  have H4:Hid (z0v w3 c ma mb mc gl B T l es late):=H2.out.own (by rw[HT.out];exact h3) g3 E4.1 E4.2.1 E4.2.2.1 E4.2.2.2 E0
  have GP : Hid (Chg (· = c) w w3) := (Chg.of G2.out).trans g3
  have EV:Hid (∀ k,T.ev.ownBlock=some k→s.ev.ownBlock=some k):=fun k hk=>by rw[← E4.2.2.2];exact hk
  clear h3 g3 i0 i1 i2 i3 i4 H2 HT E4 E0
  have HP:Hid _:=H4.out.pc
  have c33:=H4.out.core.cell 33 (by decide)
  have f33:=H4.out.core.free 33
  have e33:z1a T 33=.int .u32 (T.f 32):=rfl
  rw[e33] at c33
  clear e33
  obtain⟨q,hq2⟩:∃ q,q=T.f 32:=⟨_,rfl⟩
  rw[← hq2] at c33 HP
  clear hq2
  go_wp2
  go_ret
  exact⟨⟨_,HP.out,fun k hk=>Or.inl (EV.out k hk)⟩,fun _=>rfl,fun _ _ h=>(by cases h),(GP.out.own _).three⟩
theorem ldo_upper {w : World} {c ma mb mc gl B : Nat} {s : CS} {l : List Int} {es : List Ev} {late : List Int} (h : z0v w c ma mb mc gl B s l es late) (hf : ∀ i, U32 (s.f i)) (nm : List UInt8) (hnm : nm ∈ z1w) (hk : z1o nm = (4, 3)) (d a b : Nat) (hd : d < 32) (ha : a < 32) (hb : b < 32) (m x : Int) (hn : nm = [108, 117, 105] ∨ nm = [97, 117, 105, 112, 99]) (T : CS) (hT : T = setL s d (if nm = [108, 117, 105] then m % 4294967296 * 4096 % 4294967296 else (m % 4294967296 * 4096 % 4294967296 + s.f 32) % 4294967296)) :
    Calls Tryz.prog 44 #[.pointer (some ⟨c,0,none⟩),.agg #[.string ⟨nm.toArray⟩,.int .i64 d,.int .i64 a,.int .i64 b,.int .i32 m],.int .u32 x] w fun e w'=>z8c none (pc4 T,l,es) w c ma mb mc gl B s late e w':=by
  have CS:Hid _:=z5e nm hnm
  rw[hk] at CS
  have hfd:=fun w=>fldS (.int .i64 4) (.int .i64 3) w
  have hq:=z8j
  have HC:Hid _:=h
  have HF:Hid _:=hf
  have HNM:Hid _:=hnm
  have HK:Hid _:=hk
  have HD:Hid _:=hd
  have HA:Hid _:=ha
  have HB:Hid _:=hb
  have HT:Hid _:=hT
  clear hT
  have HN:Hid _:=hn
  clear hn
  clear h hf hnm hk hd ha hb
  go_enter Tryz.func44,Tryz.ntmps44
  go_wp2_with fail
  have I1:=z0g w (.cells #[.string ⟨nm.toArray⟩,.int .i64 d,.int .i64 a,.int .i64 b,.int .i32 m] 52)
  have H1:Hid (z0v (w.alloc (.cells #[.string ⟨nm.toArray⟩,.int .i64 d,.int .i64 a,.int .i64 b,.int .i32 m] 52)) c ma mb mc gl B s l es late):=HC.out.below ((Below.refl _ _).alloc (Nat.le_refl _) _)
  have G1:Hid (Below w.heap.size w (w.alloc (.cells #[.string ⟨nm.toArray⟩,.int .i64 d,.int .i64 a,.int .i64 b,.int .i32 m] 52))):=(Below.refl _ _).alloc (Nat.le_refl _) _
  generalize w.alloc (.cells #[.string ⟨nm.toArray⟩,.int .i64 d,.int .i64 a,.int .i64 b,.int .i32 m] 52)=W1 at *
  generalize hws:w.heap.size=bi at *
  refine (CS.out _).mono ?_
  rintro e w2 ⟨rfl,b2⟩
  have H2:Hid (z0v w2 c ma mb mc gl B s l es late):=H1.out.below b2
  have G2:Hid (Below w.heap.size w w2):=z0e (by rw[hws];exact G1.out) b2
  obtain⟨ic,_,_⟩:=z0a (z0f I1 b2)
  have i0:=ic 0 (.string ⟨nm.toArray⟩) rfl
  have i1:=ic 1 (.int .i64 d) rfl
  have i2:=ic 2 (.int .i64 a) rfl
  have i3:=ic 3 (.int .i64 b) rfl
  have i4:=ic 4 (.int .i32 m) rfl
  clear b2 CS H1 G1 I1 ic
  go_wp2_with fail
  refine (lupper H2.out.core nm HN.out d a b HD.out m).mono ?_
  rintro e w3 ⟨rfl,h3,g3⟩
  have E4:T.m=s.m∧T.la=s.la∧T.came=s.came∧T.ev=s.ev:=by rw[HT.out];exact z3n _ _ _
  have E0:T.f 0=0:=by rw[HT.out];exact (z8n H2.out.x0 _ _)
  have H4:Hid (z0v w3 c ma mb mc gl B T l es late):=H2.out.own (by rw[HT.out];exact h3) g3 E4.1 E4.2.1 E4.2.2.1 E4.2.2.2 E0
  have GP : Hid (Chg (· = c) w w3) := (Chg.of G2.out).trans g3
  have EV:Hid (∀ k,T.ev.ownBlock=some k→s.ev.ownBlock=some k):=fun k hk=>by rw[← E4.2.2.2];exact hk
  clear h3 g3 i0 i1 i2 i3 i4 H2 HT E4 E0
  have HP:Hid _:=H4.out.pc
  have c33:=H4.out.core.cell 33 (by decide)
  have f33:=H4.out.core.free 33
  have e33:z1a T 33=.int .u32 (T.f 32):=rfl
  rw[e33] at c33
  clear e33
  obtain⟨q,hq2⟩:∃ q,q=T.f 32:=⟨_,rfl⟩
  rw[← hq2] at c33 HP
  clear hq2
  go_wp2
  go_ret
  exact⟨⟨_,HP.out,fun k hk=>Or.inl (EV.out k hk)⟩,fun _=>rfl,fun _ _ h=>(by cases h),(GP.out.own _).three⟩
theorem ldo_wait {w : World} {c ma mb mc gl B : Nat} {s : CS} {l : List Int} {es : List Ev} {late : List Int} (h : z0v w c ma mb mc gl B s l es late) (hf : ∀ i, U32 (s.f i)) (nm : List UInt8) (hnm : nm ∈ z1w) (hk : z1o nm = (11, 1)) (d a b : Nat) (hd : d < 32) (ha : a < 32) (hb : b < 32) (m x : Int) (T : CS) (hT : T = (if s.set then { s with t := max s.t s.cmp } else s : CS)) :
    Calls Tryz.prog 44 #[.pointer (some ⟨c,0,none⟩),.agg #[.string ⟨nm.toArray⟩,.int .i64 d,.int .i64 a,.int .i64 b,.int .i32 m],.int .u32 x] w fun e w'=>z8c none (pc4 T,l,es) w c ma mb mc gl B s late e w':=by
  have CS:Hid _:=z5e nm hnm
  rw[hk] at CS
  have hfd:=fun w=>fldS (.int .i64 11) (.int .i64 1) w
  have hq:=z8j
  have HC:Hid _:=h
  have HF:Hid _:=hf
  have HNM:Hid _:=hnm
  have HK:Hid _:=hk
  have HD:Hid _:=hd
  have HA:Hid _:=ha
  have HB:Hid _:=hb
  have HT:Hid _:=hT
  clear hT
  clear h hf hnm hk hd ha hb
  go_enter Tryz.func44,Tryz.ntmps44
  go_wp2_with fail
  have I1:=z0g w (.cells #[.string ⟨nm.toArray⟩,.int .i64 d,.int .i64 a,.int .i64 b,.int .i32 m] 52)
  have H1:Hid (z0v (w.alloc (.cells #[.string ⟨nm.toArray⟩,.int .i64 d,.int .i64 a,.int .i64 b,.int .i32 m] 52)) c ma mb mc gl B s l es late):=HC.out.below ((Below.refl _ _).alloc (Nat.le_refl _) _)
  have G1:Hid (Below w.heap.size w (w.alloc (.cells #[.string ⟨nm.toArray⟩,.int .i64 d,.int .i64 a,.int .i64 b,.int .i32 m] 52))):=(Below.refl _ _).alloc (Nat.le_refl _) _
  generalize w.alloc (.cells #[.string ⟨nm.toArray⟩,.int .i64 d,.int .i64 a,.int .i64 b,.int .i32 m] 52)=W1 at *
  generalize hws:w.heap.size=bi at *
  refine (CS.out _).mono ?_
  rintro e w2 ⟨rfl,b2⟩
  have H2:Hid (z0v w2 c ma mb mc gl B s l es late):=H1.out.below b2
  have G2:Hid (Below w.heap.size w w2):=z0e (by rw[hws];exact G1.out) b2
  obtain⟨ic,_,_⟩:=z0a (z0f I1 b2)
  have i0:=ic 0 (.string ⟨nm.toArray⟩) rfl
  have i1:=ic 1 (.int .i64 d) rfl
  have i2:=ic 2 (.int .i64 a) rfl
  have i3:=ic 3 (.int .i64 b) rfl
  have i4:=ic 4 (.int .i32 m) rfl
  clear b2 CS H1 G1 I1 ic
  go_wp2_with fail
  refine (lwait H2.out.core).mono ?_
  rintro e w3 ⟨rfl,h3,g3⟩
  have E4:T.m=s.m∧T.la=s.la∧T.came=s.came∧T.ev=s.ev:=by rw[HT.out];exact (by split <;> exact⟨rfl,rfl,rfl,rfl⟩)
  have E0:T.f 0=0:=by rw[HT.out];exact (by split <;> exact H2.out.x0)
  have H4:Hid (z0v w3 c ma mb mc gl B T l es late):=H2.out.own (by rw[HT.out];exact h3) g3 E4.1 E4.2.1 E4.2.2.1 E4.2.2.2 E0
  have GP : Hid (Chg (· = c) w w3) := (Chg.of G2.out).trans g3
  have EV:Hid (∀ k,T.ev.ownBlock=some k→s.ev.ownBlock=some k):=fun k hk=>by rw[← E4.2.2.2];exact hk
  clear h3 g3 i0 i1 i2 i3 i4 H2 HT E4 E0
  have HP:Hid _:=H4.out.pc
  have c33:=H4.out.core.cell 33 (by decide)
  have f33:=H4.out.core.free 33
  have e33:z1a T 33=.int .u32 (T.f 32):=rfl
  rw[e33] at c33
  clear e33
  obtain⟨q,hq2⟩:∃ q,q=T.f 32:=⟨_,rfl⟩
  rw[← hq2] at c33 HP
  clear hq2
  go_wp2
  go_ret
  exact⟨⟨_,HP.out,fun k hk=>Or.inl (EV.out k hk)⟩,fun _=>rfl,fun _ _ h=>(by cases h),(GP.out.own _).three⟩
theorem ldo_fence {w : World} {c ma mb mc gl B : Nat} {s : CS} {l : List Int} {es : List Ev} {late : List Int} (h : z0v w c ma mb mc gl B s l es late) (hf : ∀ i, U32 (s.f i)) (nm : List UInt8) (hnm : nm ∈ z1w) (hk : z1o nm = (12, 1)) (d a b : Nat) (hd : d < 32) (ha : a < 32) (hb : b < 32) (m x : Int) :
    Calls Tryz.prog 44 #[.pointer (some ⟨c,0,none⟩),.agg #[.string ⟨nm.toArray⟩,.int .i64 d,.int .i64 a,.int .i64 b,.int .i32 m],.int .u32 x] w fun e w'=>z8c none (pc4 s,l,es) w c ma mb mc gl B s late e w':=by
  have CS:Hid _:=z5e nm hnm
  rw[hk] at CS
  have hfd:=fun w=>fldS (.int .i64 12) (.int .i64 1) w
  have hq:=z8j
  have HC:Hid _:=h
  have HF:Hid _:=hf
  have HNM:Hid _:=hnm
  have HK:Hid _:=hk
  have HD:Hid _:=hd
  have HA:Hid _:=ha
  have HB:Hid _:=hb
  clear h hf hnm hk hd ha hb
  go_enter Tryz.func44,Tryz.ntmps44
  go_wp2_with fail
  have I1:=z0g w (.cells #[.string ⟨nm.toArray⟩,.int .i64 d,.int .i64 a,.int .i64 b,.int .i32 m] 52)
  have H1:Hid (z0v (w.alloc (.cells #[.string ⟨nm.toArray⟩,.int .i64 d,.int .i64 a,.int .i64 b,.int .i32 m] 52)) c ma mb mc gl B s l es late):=HC.out.below ((Below.refl _ _).alloc (Nat.le_refl _) _)
  have G1:Hid (Below w.heap.size w (w.alloc (.cells #[.string ⟨nm.toArray⟩,.int .i64 d,.int .i64 a,.int .i64 b,.int .i32 m] 52))):=(Below.refl _ _).alloc (Nat.le_refl _) _
  generalize w.alloc (.cells #[.string ⟨nm.toArray⟩,.int .i64 d,.int .i64 a,.int .i64 b,.int .i32 m] 52)=W1 at *
  generalize hws:w.heap.size=bi at *
  refine (CS.out _).mono ?_
  rintro e w2 ⟨rfl,b2⟩
  have H2:Hid (z0v w2 c ma mb mc gl B s l es late):=H1.out.below b2
  have G2:Hid (Below w.heap.size w w2):=z0e (by rw[hws];exact G1.out) b2
  obtain⟨ic,_,_⟩:=z0a (z0f I1 b2)
  have i0:=ic 0 (.string ⟨nm.toArray⟩) rfl
  have i1:=ic 1 (.int .i64 d) rfl
  have i2:=ic 2 (.int .i64 a) rfl
  have i3:=ic 3 (.int .i64 b) rfl
  have i4:=ic 4 (.int .i32 m) rfl
  clear b2 CS H1 G1 I1 ic
  have HP:Hid _:=H2.out.pc
  have c33:=H2.out.core.cell 33 (by decide)
  have f33:=H2.out.core.free 33
  have e33:z1a s 33=.int .u32 (s.f 32):=rfl
  rw[e33] at c33
  have GP : Hid (Chg (· = c) w w2) := Chg.of G2.out
  clear i0 i1 i2 i3 i4 e33 H2
  obtain⟨q,hq2⟩:∃ q,q=s.f 32:=⟨_,rfl⟩
  rw[← hq2] at c33 HP
  clear hq2
  go_wp2
  go_ret
  exact⟨⟨_,HP.out,fun k hk=>Or.inl hk⟩,fun _=>rfl,fun _ _ h=>(by cases h),(GP.out.own _).three⟩
theorem ldo_branch {w : World} {c ma mb mc gl B : Nat} {s : CS} {l : List Int} {es : List Ev} {late : List Int} (h : z0v w c ma mb mc gl B s l es late) (hf : ∀ i, U32 (s.f i)) (nm : List UInt8) (hnm : nm ∈ z1w) (hk : z1o nm = (7, 2)) (d a b : Nat) (hd : d < 32) (ha : a < 32) (hb : b < 32) (m x : Int) (hn : nm = [98, 101, 113] ∨ nm = [98, 110, 101] ∨ nm = [98, 108, 116] ∨ nm = [98, 103, 101] ∨ nm = [98, 108, 116, 117] ∨ nm = [98, 103, 101, 117]) (T : CS) (hT : T = { s with f := set1 s.f 32 ((s.f 32 + (if holdsV nm (s.f a) (s.f b) then m % 4294967296 else 4)) % 4294967296) }) :
    Calls Tryz.prog 44 #[.pointer (some ⟨c,0,none⟩),.agg #[.string ⟨nm.toArray⟩,.int .i64 d,.int .i64 a,.int .i64 b,.int .i32 m],.int .u32 x] w fun e w'=>z8c none (T,l,es) w c ma mb mc gl B s late e w':=by
  have CS:Hid _:=z5e nm hnm
  rw[hk] at CS
  have hfd:=fun w=>fldS (.int .i64 7) (.int .i64 2) w
  have hq:=z8j
  have HC:Hid _:=h
  have HF:Hid _:=hf
  have HNM:Hid _:=hnm
  have HK:Hid _:=hk
  have HD:Hid _:=hd
  have HA:Hid _:=ha
  have HB:Hid _:=hb
  have HT:Hid _:=hT
  clear hT
  have HN:Hid _:=hn
  clear hn
  clear h hf hnm hk hd ha hb
  go_enter Tryz.func44,Tryz.ntmps44
  go_wp2_with fail
  have I1:=z0g w (.cells #[.string ⟨nm.toArray⟩,.int .i64 d,.int .i64 a,.int .i64 b,.int .i32 m] 52)
  have H1:Hid (z0v (w.alloc (.cells #[.string ⟨nm.toArray⟩,.int .i64 d,.int .i64 a,.int .i64 b,.int .i32 m] 52)) c ma mb mc gl B s l es late):=HC.out.below ((Below.refl _ _).alloc (Nat.le_refl _) _)
  have G1:Hid (Below w.heap.size w (w.alloc (.cells #[.string ⟨nm.toArray⟩,.int .i64 d,.int .i64 a,.int .i64 b,.int .i32 m] 52))):=(Below.refl _ _).alloc (Nat.le_refl _) _
  generalize w.alloc (.cells #[.string ⟨nm.toArray⟩,.int .i64 d,.int .i64 a,.int .i64 b,.int .i32 m] 52)=W1 at *
  generalize hws:w.heap.size=bi at *
  refine (CS.out _).mono ?_
  rintro e w2 ⟨rfl,b2⟩
  have H2:Hid (z0v w2 c ma mb mc gl B s l es late):=H1.out.below b2
  have G2:Hid (Below w.heap.size w w2):=z0e (by rw[hws];exact G1.out) b2
  obtain⟨ic,_,_⟩:=z0a (z0f I1 b2)
  have i0:=ic 0 (.string ⟨nm.toArray⟩) rfl
  have i1:=ic 1 (.int .i64 d) rfl
  have i2:=ic 2 (.int .i64 a) rfl
  have i3:=ic 3 (.int .i64 b) rfl
  have i4:=ic 4 (.int .i32 m) rfl
  clear b2 CS H1 G1 I1 ic
  go_wp2_with fail
  refine (lbranch H2.out.core nm HN.out d a b HA.out HB.out m).mono ?_
  rintro e w3 ⟨rfl,h3,g3⟩
  have E4:T.m=s.m∧T.la=s.la∧T.came=s.came∧T.ev=s.ev:=by rw[HT.out];exact⟨rfl,rfl,rfl,rfl⟩
  have E0:T.f 0=0:=by rw[HT.out];exact H2.out.x0
  have H4:Hid (z0v w3 c ma mb mc gl B T l es late):=H2.out.own (by rw[HT.out];exact h3) g3 E4.1 E4.2.1 E4.2.2.1 E4.2.2.2 E0
  have GP : Hid (Chg (· = c) w w3) := (Chg.of G2.out).trans g3
  have EV:Hid (∀ k,T.ev.ownBlock=some k→s.ev.ownBlock=some k):=fun k hk=>by rw[← E4.2.2.2];exact hk
  clear h3 g3 i0 i1 i2 i3 i4 H2 HT E4 E0
  go_wp2
  go_ret
  exact⟨⟨_,H4.out,fun k hk=>Or.inl (EV.out k hk)⟩,fun _=>rfl,fun _ _ h=>(by cases h),GP.out.three⟩
theorem ldo_jump {w : World} {c ma mb mc gl B : Nat} {s : CS} {l : List Int} {es : List Ev} {late : List Int} (h : z0v w c ma mb mc gl B s l es late) (hf : ∀ i, U32 (s.f i)) (nm : List UInt8) (hnm : nm ∈ z1w) (hk : z1o nm = (8, 3)) (d a b : Nat) (hd : d < 32) (ha : a < 32) (hb : b < 32) (m x : Int) (hn : nm = [106, 97, 108] ∨ nm = [106, 97, 108, 114]) (to : Int) (hto : to = if nm = [106, 97, 108] then (s.f 32 + m) % 4294967296 else bits .andNot .u32 ((s.f a + m) % 4294967296) 1) (T : CS) (hT : T = { (setL s d ((s.f 32 + 4) % 4294967296)) with f := set1 (setL s d ((s.f 32 + 4) % 4294967296)).f 32 to }) :
    Calls Tryz.prog 44 #[.pointer (some ⟨c,0,none⟩),.agg #[.string ⟨nm.toArray⟩,.int .i64 d,.int .i64 a,.int .i64 b,.int .i32 m],.int .u32 x] w fun e w'=>z8c none (T,l,es) w c ma mb mc gl B s late e w':=by
  have CS:Hid _:=z5e nm hnm
  rw[hk] at CS
  have hfd:=fun w=>fldS (.int .i64 8) (.int .i64 3) w
  have hq:=z8j
  have HC:Hid _:=h
  have HF:Hid _:=hf
  have HNM:Hid _:=hnm
  have HK:Hid _:=hk
  have HD:Hid _:=hd
  have HA:Hid _:=ha
  have HB:Hid _:=hb
  have HT:Hid _:=hT
  clear hT
  have HN:Hid _:=hn
  have HTO:Hid _:=hto
  clear hn hto
  clear h hf hnm hk hd ha hb
  go_enter Tryz.func44,Tryz.ntmps44
  go_wp2_with fail
  have I1:=z0g w (.cells #[.string ⟨nm.toArray⟩,.int .i64 d,.int .i64 a,.int .i64 b,.int .i32 m] 52)
  have H1:Hid (z0v (w.alloc (.cells #[.string ⟨nm.toArray⟩,.int .i64 d,.int .i64 a,.int .i64 b,.int .i32 m] 52)) c ma mb mc gl B s l es late):=HC.out.below ((Below.refl _ _).alloc (Nat.le_refl _) _)
  have G1:Hid (Below w.heap.size w (w.alloc (.cells #[.string ⟨nm.toArray⟩,.int .i64 d,.int .i64 a,.int .i64 b,.int .i32 m] 52))):=(Below.refl _ _).alloc (Nat.le_refl _) _
  generalize w.alloc (.cells #[.string ⟨nm.toArray⟩,.int .i64 d,.int .i64 a,.int .i64 b,.int .i32 m] 52)=W1 at *
  generalize hws:w.heap.size=bi at *
  refine (CS.out _).mono ?_
  rintro e w2 ⟨rfl,b2⟩
  have H2:Hid (z0v w2 c ma mb mc gl B s l es late):=H1.out.below b2
  have G2:Hid (Below w.heap.size w w2):=z0e (by rw[hws];exact G1.out) b2
  obtain⟨ic,_,_⟩:=z0a (z0f I1 b2)
  have i0:=ic 0 (.string ⟨nm.toArray⟩) rfl
  have i1:=ic 1 (.int .i64 d) rfl
  have i2:=ic 2 (.int .i64 a) rfl
  have i3:=ic 3 (.int .i64 b) rfl
  have i4:=ic 4 (.int .i32 m) rfl
  clear b2 CS H1 G1 I1 ic
  go_wp2_with fail
  refine (ljump H2.out.core nm HN.out d a b HD.out HA.out m to HTO.out).mono ?_
  rintro e w3 ⟨rfl,h3,g3⟩
  have E4:T.m=s.m∧T.la=s.la∧T.came=s.came∧T.ev=s.ev:=by rw[HT.out];exact z3n _ _ _
  have E0:T.f 0=0:=by rw[HT.out];exact (z8n H2.out.x0 d ((s.f 32+4)%4294967296))
  have H4:Hid (z0v w3 c ma mb mc gl B T l es late):=H2.out.own (by rw[HT.out];exact h3) g3 E4.1 E4.2.1 E4.2.2.1 E4.2.2.2 E0
  have GP : Hid (Chg (· = c) w w3) := (Chg.of G2.out).trans g3
  have EV:Hid (∀ k,T.ev.ownBlock=some k→s.ev.ownBlock=some k):=fun k hk=>by rw[← E4.2.2.2];exact hk
  clear h3 g3 i0 i1 i2 i3 i4 H2 HT E4 E0
  go_wp2
  go_ret
  exact⟨⟨_,H4.out,fun k hk=>Or.inl (EV.out k hk)⟩,fun _=>rfl,fun _ _ h=>(by cases h),GP.out.three⟩
theorem ldo_call (h:z0v w c ma mb mc gl B s l es late) (hf:∀ i,U32 (s.f i)) (nm:List UInt8) (hnm:nm∈z1w) (hk:z1o nm=(13,1)) (d a b:Nat) (hd:d<32) (ha:a<32) (hb:b<32) (m x:Int) (hn:nm=[101,99,97,108,108]∨nm=[101,98,114,101,97,107]) (kk vv:Int) (hkk:kk=if nm=[101,98,114,101,97,107] then 3 else if s.u then 8 else 11) (hvv:vv=if nm=[101,98,114,101,97,107] then s.f 32 else 0) :
  Calls Tryz.prog 44 #[.pointer (some ⟨c,0,none⟩),.agg #[.string ⟨nm.toArray⟩,.int .i64 d,.int .i64 a,.int .i64 b,.int .i32 m],.int .u32 x] w fun e w'=>z8c (some (kk,vv)) (s,l,es) w c ma mb mc gl B s late e w':=by
 have CS:Hid _:=z5e nm hnm
 rw[hk] at CS
 have hfd:=fun w=>fldS (.int .i64 13) (.int .i64 1) w
 have hq:=z8j
 have HC:Hid _:=h
 have HF:Hid _:=hf
 have HNM:Hid _:=hnm
 have HK:Hid _:=hk
 have HD:Hid _:=hd
 have HA:Hid _:=ha
 have HB:Hid _:=hb
 have HN:Hid _:=hn
 have HKV:Hid _:=And.intro hkk hvv
 clear hn hkk hvv
 clear h hf hnm hk hd ha hb
 go_enter Tryz.func44,Tryz.ntmps44
 go_wp2_with fail
 have I1:=z0g w (.cells #[.string ⟨nm.toArray⟩,.int .i64 d,.int .i64 a,.int .i64 b,.int .i32 m] 52)
 have H1:Hid (z0v (w.alloc (.cells #[.string ⟨nm.toArray⟩,.int .i64 d,.int .i64 a,.int .i64 b,.int .i32 m] 52)) c ma mb mc gl B s l es late):=HC.out.below ((Below.refl _ _).alloc (Nat.le_refl _) _)
 have G1:Hid (Below w.heap.size w (w.alloc (.cells #[.string ⟨nm.toArray⟩,.int .i64 d,.int .i64 a,.int .i64 b,.int .i32 m] 52))):=(Below.refl _ _).alloc (Nat.le_refl _) _
 generalize w.alloc (.cells #[.string ⟨nm.toArray⟩,.int .i64 d,.int .i64 a,.int .i64 b,.int .i32 m] 52)=W1 at *
 generalize hws:w.heap.size=bi at *
 refine (CS.out _).mono ?_
 rintro e w2 ⟨rfl,b2⟩
 have H2:Hid (z0v w2 c ma mb mc gl B s l es late):=H1.out.below b2
 have G2:Hid (Below w.heap.size w w2):=z0e (by rw[hws];exact G1.out) b2
 obtain⟨ic,_,_⟩:=z0a (z0f I1 b2)
 have i0:=ic 0 (.string ⟨nm.toArray⟩) rfl
 have i1:=ic 1 (.int .i64 d) rfl
 have i2:=ic 2 (.int .i64 a) rfl
 have i3:=ic 3 (.int .i64 b) rfl
 have i4:=ic 4 (.int .i32 m) rfl
 clear b2 CS H1 G1 I1 ic
 go_wp2_with fail
 refine (lcall H2.out.core nm HN.out d a b m).mono ?_
 rintro e w3 ⟨g,rfl,g1,g2,g3⟩
 have H4:Hid _:=H2.out.below g3
 have GP:Hid (Below w.heap.size w w3):=z0e G2.out g3
 have GF:Hid (z9f w3 g kk vv):=by rw[HKV.out.1,HKV.out.2];exact g2
 have hg:w.heap.size≤g:=Nat.le_trans G2.out.size g1
 clear g1 g2 g3 i0 i1 i2 i3 i4 H2 HKV HN
 go_wp2
 go_ret
 exact⟨⟨_,H4.out,fun k hk=>Or.inl hk⟩,fun h=>(by cases h),fun k v h=>(by cases h;exact⟨g,rfl,hg,GF.out⟩),Chg.of GP.out⟩
end
section
variable {w:World} {c ma mb mc gl B:Nat} {s:CS} {l:List Int} {es:List Ev} {late:List Int}
structure InsRes (o:St) (w:World) (c ma mb mc gl B:Nat) (s:CS) (late:List Int) (e:Ending) (w':World):Prop where
 is:e=.returned (.tuple #[])
 core:∃ ev,z0v w' c ma mb mc gl B { o.1 with ev:=ev } o.2.1 o.2.2 late∧∀ k,ev.ownBlock=some k→s.ev.ownBlock=some k∨w.heap.size≤k
 chg:Chg (fun k=>k=c∨k=mb∨s.ev.ownBlock=some k) w w'
theorem z0v.trapped {w w' : World} {c ma mb mc gl B : Nat} {s : CS} {l : List Int} {es : List Ev} {late : List Int} (h : z0v w c ma mb mc gl B s l es late) (k v : Int) (hc : LAt w' c (z1j s k v)) (hg : Chg (· = c) w w') : z0v w' c ma mb mc gl B (z1j s k v) l es late :=
  h.own hc hg rfl rfl rfl rfl (by show z5i s.f s.u k v 0=0;unfold z5i;simp;exact h.x0)
theorem z5t {w : World} {c ma mb mc gl B : Nat} {s : CS} {l : List Int} {es : List Ev} {late : List Int} (h : z0v w c ma mb mc gl B s l es late) (hf : ∀ i, U32 (s.f i)) (k v : Int) (ht : 0 ≤ s.t) (ht2 : s.t ≤ 1152921504606846976) (hfe : ∀ W, z0v W c ma mb mc gl B s l es late → Calls Tryz.prog 43 #[.pointer (some ⟨c, 0, none⟩)] W fun e w' => FetchNo k v W e w') :
    Calls Tryz.prog 27 #[.pointer (some ⟨c,0,none⟩)] w fun e w'=>InsRes (z1j s k v,l,es) w c ma mb mc gl B s late e w':=by
  have HC:Hid _:=h
  have HF:Hid _:=hf
  have hq1:=z8j
  have hq2:=neqFlt
  have CF:Hid _:=hfe
  have HTT:Hid _:=And.intro ht ht2
  clear hfe ht ht2
  clear h hf
  go_enter Tryz.func27,Tryz.ntmps27
  go_wp2_with fail
  refine Calls.mono (CF.out w HC.out) ?_
  intro e w1 q
  obtain⟨g,rfl,g1,g2⟩:=q.is
  have H1:Hid _:=HC.out.below q.below
  have B1:Hid _:=q.below
  have GF:Hid _:=g2
  have bA:Hid (Below w1.heap.size w1 (w1.alloc (.cells #[.string ⟨#[]⟩,.int .i64 0,.int .i64 0,.int .i64 0,.int .i32 0] 52))):=(Below.refl _ _).alloc (Nat.le_refl _) _
  have GA:Hid (z9f (w1.alloc (.cells #[.string ⟨#[]⟩,.int .i64 0,.int .i64 0,.int .i64 0,.int .i32 0] 52)) g k v):=GF.out.below bA.out
  obtain⟨gc,_,gl2⟩:=z0a GA.out.is
  have x0:=gc 0 (.int .u32 k) rfl
  have x1:=gc 1 (.int .u32 v) rfl
  have HA:Hid (z0v (w1.alloc (.cells #[.string ⟨#[]⟩,.int .i64 0,.int .i64 0,.int .i64 0,.int .i32 0] 52)) c ma mb mc gl B s l es late):=H1.out.below bA.out
  have BA:Hid (Below w.heap.size w (w1.alloc (.cells #[.string ⟨#[]⟩,.int .i64 0,.int .i64 0,.int .i64 0,.int .i32 0] 52))):=z0e B1.out bA.out
  clear q g1 g2 gc gl2 CF
  go_wp2_with fail
  refine (ltrap HA.out.core HF.out k v HTT.out.1 HTT.out.2).mono ?_
  rintro e w2 ⟨rfl,h2,c2⟩
  have H2:Hid _:=HA.out.trapped k v h2 c2
  have C2 : Hid (Chg (· = c) w w2) := (Chg.of BA.out).trans c2
  clear h2 c2 HA BA bA GA H1 B1 GF x0 x1
  go_wp2
  go_end0
  exact⟨rfl,⟨_,H2.out,fun k hk=>Or.inl hk⟩,C2.out.three⟩
theorem linstruct_fault (h:z0v w c ma mb mc gl B s l es late) (hf:∀ i,U32 (s.f i)) (nm:List UInt8) (d a b:Nat) (m x:Int) (hfe:∀ W,z0v W c ma mb mc gl B s l es late→Calls Tryz.prog 43 #[.pointer (some ⟨c,0,none⟩)] W fun e w'=>FetchOk nm d a b m x W e w') (o:St) (k v:Int) (hso:s.t=o.1.t∧(∀ i,U32 (o.1.f i))) (ht:0≤s.t) (ht2:s.t≤1152921504606846976) (hdo:∀ W,z0v W c ma mb mc gl B s l es late→Calls Tryz.prog 44 #[.pointer (some ⟨c,0,none⟩),.agg #[.string ⟨nm.toArray⟩,.int .i64 d,.int .i64 a,.int .i64 b,.int .i32 m],.int .u32 x] W fun e w'=>z8c (some (k,v)) o W c ma mb mc gl B s late e w') :
  Calls Tryz.prog 27 #[.pointer (some ⟨c,0,none⟩)] w fun e w'=>InsRes (z1j o.1 k v,o.2.1,o.2.2) w c ma mb mc gl B s late e w':=by
 have HC:Hid _:=h
 have HF:Hid _:=hf
 have hq1:=z8j
 have hq2:=neqFlt
 have CF:Hid _:=hfe
 clear hfe
 have CD:Hid _:=hdo
 have HTT:Hid _:=And.intro ht (And.intro ht2 hso)
 clear hdo ht ht2 hso
 clear h hf
 go_enter Tryz.func27,Tryz.ntmps27
 go_wp2_with fail
 refine Calls.mono (CF.out w HC.out) ?_
 intro e w1 q
 obtain rfl:=q.is
 have bA:Below w1.heap.size w1 (w1.alloc (.cells #[.string ⟨nm.toArray⟩,.int .i64 d,.int .i64 a,.int .i64 b,.int .i32 m] 52)):=(Below.refl _ _).alloc (Nat.le_refl _) _
 have HA:Hid (z0v (w1.alloc (.cells #[.string ⟨nm.toArray⟩,.int .i64 d,.int .i64 a,.int .i64 b,.int .i32 m] 52)) c ma mb mc gl B s l es late):=(HC.out.below q.below).below bA
 have BA:Hid (Below w.heap.size w (w1.alloc (.cells #[.string ⟨nm.toArray⟩,.int .i64 d,.int .i64 a,.int .i64 b,.int .i32 m] 52))):=z0e q.below bA
 have I1:=z0g w1 (.cells #[.string ⟨nm.toArray⟩,.int .i64 d,.int .i64 a,.int .i64 b,.int .i32 m] 52)
 have hw1:w.heap.size≤w1.heap.size:=q.below.size
 have hc1:c<w1.heap.size:=Nat.lt_of_lt_of_le HC.out.core.lt hw1
 clear q CF bA
 go_wp2_with fail
 generalize w1.alloc (.cells #[.string ⟨nm.toArray⟩,.int .i64 d,.int .i64 a,.int .i64 b,.int .i32 m] 52)=W1 at *
 generalize hbi:w1.heap.size=bi at *
 refine Calls.mono (CD.out W1 HA.out) ?_
 intro e w2 q
 obtain⟨g,rfl,g1,g2⟩:=q.no k v rfl
 obtain⟨ev,h2,h3⟩:=q.core
 have H2:Hid _:=h2
 have H3:Hid _:=h3
 have C2:Hid (Chg (fun k=>k=c∨k=mb∨s.ev.ownBlock=some k) w w2):=(Chg.of BA.out).trans q.chg
 have hs:w.heap.size≤W1.heap.size:=BA.out.size
 obtain⟨gc,_,_⟩:=z0a g2.is
 have x0:=gc 0 (.int .u32 k) rfl
 have x1:=gc 1 (.int .u32 v) rfl
 clear q h2 h3 g1 g2 gc CD HA BA
 go_wp2_with fail
 refine (ltrap H2.out.core HTT.out.2.2.2 k v (by show 0≤o.1.t;rw[← HTT.out.2.2.1];exact HTT.out.1) (by show o.1.t≤_;rw[← HTT.out.2.2.1];exact HTT.out.2.1)).mono ?_
 rintro e w4 ⟨rfl,h4,c4⟩
 have H4:Hid _:=H2.out.trapped k v h4 c4
 have C4:Hid _:=C2.out.trans (c4.three (mb:=mb) (v:=s.ev))
 clear h4 c4 x0 x1
 go_wp2
 go_end0
 exact⟨rfl,⟨ev,H4.out,fun k hk=>(H3.out k hk).elim Or.inl (fun e=>Or.inr (Nat.le_trans hs e))⟩,C4.out⟩
theorem linstruct_ok (h:z0v w c ma mb mc gl B s l es late) (hf:∀ i,U32 (s.f i)) (nm:List UInt8) (d a b:Nat) (m x:Int) (hfe:∀ W,z0v W c ma mb mc gl B s l es late→Calls Tryz.prog 43 #[.pointer (some ⟨c,0,none⟩)] W fun e w'=>FetchOk nm d a b m x W e w') (o:St) (kk ff ct:Int) (hnm:nm∈z1w) (hsh:z1o nm=(kk,ff)) (hct:(kk,ff,ct)∈z4h) (ht:0≤o.1.t+ct) (ht2:o.1.t+ct≤1152921504606846976) (hdo:∀ W,z0v W c ma mb mc gl B s l es late→Calls Tryz.prog 44 #[.pointer (some ⟨c,0,none⟩),.agg #[.string ⟨nm.toArray⟩,.int .i64 d,.int .i64 a,.int .i64 b,.int .i32 m],.int .u32 x] W fun e w'=>z8c none o W c ma mb mc gl B s late e w') :
  Calls Tryz.prog 27 #[.pointer (some ⟨c,0,none⟩)] w fun e w'=>InsRes ({ o.1 with t:=o.1.t+ct },o.2.1,o.2.2) w c ma mb mc gl B s late e w':=by
 have HC:Hid _:=h
 have HF:Hid _:=hf
 have hq1:=z8j
 have hq2:=neqFlt
 have CF:Hid _:=hfe
 clear hfe
 have CD:Hid _:=hdo
 have CS:Hid _:=z5e nm hnm
 rw[hsh] at CS
 have CC:Hid _:=fun w=>ccost hct w
 have w1x:IntKind.i64.wrap (o.1.t+ct)=o.1.t+ct:=i64_id (by omega) (by omega)
 have HW1:Hid _:=w1x
 have hmo:Tryz.prog.follows .mixedOrders=true:=by kernel_rfl
 clear hdo ht ht2 hnm hsh hct w1x
 clear h hf
 go_enter Tryz.func27,Tryz.ntmps27
 go_wp2_with fail
 refine Calls.mono (CF.out w HC.out) ?_
 intro e w1 q
 obtain rfl:=q.is
 have bA:Below w1.heap.size w1 (w1.alloc (.cells #[.string ⟨nm.toArray⟩,.int .i64 d,.int .i64 a,.int .i64 b,.int .i32 m] 52)):=(Below.refl _ _).alloc (Nat.le_refl _) _
 have HA:Hid (z0v (w1.alloc (.cells #[.string ⟨nm.toArray⟩,.int .i64 d,.int .i64 a,.int .i64 b,.int .i32 m] 52)) c ma mb mc gl B s l es late):=(HC.out.below q.below).below bA
 have BA:Hid (Below w.heap.size w (w1.alloc (.cells #[.string ⟨nm.toArray⟩,.int .i64 d,.int .i64 a,.int .i64 b,.int .i32 m] 52))):=z0e q.below bA
 have I1:=z0g w1 (.cells #[.string ⟨nm.toArray⟩,.int .i64 d,.int .i64 a,.int .i64 b,.int .i32 m] 52)
 have hw1:w.heap.size≤w1.heap.size:=q.below.size
 have hc1:c<w1.heap.size:=Nat.lt_of_lt_of_le HC.out.core.lt hw1
 clear q CF bA
 go_wp2_with fail
 generalize w1.alloc (.cells #[.string ⟨nm.toArray⟩,.int .i64 d,.int .i64 a,.int .i64 b,.int .i32 m] 52)=W1 at *
 generalize hbi:w1.heap.size=bi at *
 refine Calls.mono (CD.out W1 HA.out) ?_
 intro e w2 q
 obtain rfl:=q.ok rfl
 obtain⟨ev,h2,h3⟩:=q.core
 have H2:Hid _:=h2
 have H3:Hid _:=h3
 have C2:Hid (Chg (fun k=>k=c∨k=mb∨s.ev.ownBlock=some k) w w2):=(Chg.of BA.out).trans q.chg
 have hs:w.heap.size≤W1.heap.size:=BA.out.size
 have I2:w2.heap[bi]?=some (.cells #[.string ⟨nm.toArray⟩,.int .i64 d,.int .i64 a,.int .i64 b,.int .i32 m] 52):=(q.chg.block bi (z0a I1).2.2 (by
  rintro (e | e | e)
  ·omega
  ·have:=(z0a I1).2.2;have hm:=HC.out.mem.there.2;omega
  ·have:=(z3k HC.out.ev bi e).2;omega)).trans I1
 clear q h2 h3 CD HA BA I1
 have w1x:=HW1.out
 go_wp2_with fail
 refine z1b 11 [] [.pointer (some ⟨c,0,none⟩),.pointer (some ⟨c,0,none⟩),.pointer (some ⟨c,58,none⟩),.int .i64 o.1.t,.pointer (some ⟨bi,0,none⟩),.string ⟨nm.toArray⟩,.agg #[.int .i64 kk,.int .i64 ff],.int .i64 ct,.int .i64 (o.1.t+ct),.pointer (some ⟨c,0,none⟩),.pointer (some ⟨c,58,none⟩)] hmo (by kernel_rfl) (by kernel_rfl) (by intro r hr;cases hr) ?_ (by intro r hr;cases hr) (by intro r hr;cases hr) ?_
 ·generalize hl:lay _ _ _=af
  have e0:af.tmps[0]?.getD undef=.pointer (some ⟨c,0,none⟩):=by rw[← hl];kernel_rfl
  have e24:af.tmps[24]?.getD undef=.pointer (some ⟨c,0,none⟩):=by rw[← hl];kernel_rfl
  have e25:af.tmps[25]?.getD undef=.pointer (some ⟨c,0,none⟩):=by rw[← hl];kernel_rfl
  have e26:af.tmps[26]?.getD undef=.pointer (some ⟨c,58,none⟩):=by rw[← hl];kernel_rfl
  have e2:af.tmps[2]?.getD undef=.pointer (some ⟨bi,0,none⟩):=by rw[← hl];kernel_rfl
  have e28:af.tmps[28]?.getD undef=.pointer (some ⟨bi,0,none⟩):=by rw[← hl];kernel_rfl
  have e29:af.tmps[29]?.getD undef=.string ⟨nm.toArray⟩:=by rw[← hl];kernel_rfl
  have e30:af.tmps[30]?.getD undef=.agg #[.int .i64 kk,.int .i64 ff]:=by rw[← hl];kernel_rfl
  have e27:af.tmps[27]?.getD undef=.int .i64 o.1.t:=by rw[← hl];kernel_rfl
  have e31:af.tmps[31]?.getD undef=.int .i64 ct:=by rw[← hl];kernel_rfl
  have e33:af.tmps[33]?.getD undef=.pointer (some ⟨c,0,none⟩):=by rw[← hl];kernel_rfl
  clear hl
  refine And.intro (fun w' hw=>z0d (by simp[execOp,go_sem,e0])) ?_
  refine And.intro (fun w' hw=>z0d (by simp[execOp,go_sem,e24])) ?_
  refine And.intro (fun w' hw=>z0d (by simp[execOp,go_sem,e25])) ?_
  refine And.intro (fun w' hw=>by
   have c58:w'.cell? ⟨c,58,none⟩=some (.int .i64 o.1.t):=(H2.out.core.below hw).cell 58 (by decide)
   exact z0d (by simp[execOp,go_sem,e26,c58])) ?_
  refine And.intro (fun w' hw=>z0d (by simp[execOp,go_sem,e2])) ?_
  refine And.intro (fun w' hw=>by
   have q0:=(z0a (z0f I2 hw)).1 0 (.string ⟨nm.toArray⟩) rfl
   exact z0d (by simp[execOp,go_sem,e28,q0])) ?_
  refine And.intro (fun w' hw=>z1k 45 #[.string ⟨nm.toArray⟩] (by simp[go_sem,e29]) (CS.out _)) ?_
  refine And.intro (fun w' hw=>z1k 42 #[.agg #[.int .i64 kk,.int .i64 ff]] (by simp[go_sem,e30]) (CC.out _)) ?_
  refine And.intro (fun w' hw=>by
   exact z0d (by simp[execOp,go_sem,e27,e31,w1x])) ?_
  refine And.intro (fun w' hw=>z0d (by simp[execOp,go_sem,e24])) ?_
  refine And.intro (fun w' hw=>z0d (by simp[execOp,go_sem,e33])) ?_
  exact True.intro
 ·intro β5 W5 hW5 _ _
  have H5:Hid _:=H2.out.below hW5
  have C5:Hid _:=C2.out.step hW5
  clear hW5 H2 C2 CC CS I2
  have c58:=H5.out.core.cell 58 (by decide)
  have f58:=H5.out.core.free 58
  have e58:z1a { o.1 with ev:=ev } 58=.int .i64 o.1.t:=rfl
  rw[e58] at c58
  have HP:Hid (z0v (W5.setCell ⟨c,58,none⟩ (.int .i64 (o.1.t+ct))) c ma mb mc gl B { o.1 with ev:=ev,t:=o.1.t+ct } o.2.1 o.2.2 late):=H5.out.own (H5.out.core.put 58 _ (fun j _=>lg_t { o.1 with ev:=ev } _ j)) ((Chg.refl _ _).own _) rfl rfl rfl rfl H5.out.x0
  clear e58 H5
  simp[z3o,lay,Act.put]
  go_wp2
  go_end0
  exact⟨rfl,⟨ev,HP.out,fun k hk=>(H3.out k hk).elim Or.inl (fun e=>Or.inr (Nat.le_trans hs e))⟩,C5.out.set (O:=fun k=>k=c∨k=mb∨s.ev.ownBlock=some k) (Or.inl rfl) _⟩
end
theorem lstep_stop {w:World} {c:Nat} {s:CS} (h:LAt w c s) (hs:s.stop=true):Calls Tryz.prog 10 #[.pointer (some ⟨c,0,none⟩)] w fun e w'=>e=.returned (.bool false)∧w'=w:=by
 have c69:=h.cell 69 (by decide)
 have e69:z1a s 69=.bool s.stop:=rfl
 rw[e69,hs] at c69
 have hq:=eqPtr
 clear h hs e69
 go_enter Tryz.func10,Tryz.ntmps10
 go_wp2
 go_ret
 exact⟨rfl,rfl⟩
theorem z0v.leaks {w : World} {c ma mb mc gl B : Nat} {s : CS} {l : List Int} {es : List Ev} {late : List Int} (h : z0v w c ma mb mc gl B s l es late) :
    z0v (((w.setCell ⟨c, 66, none⟩ (.int .u32 (s.f 32))).setCell ⟨c, 67, none⟩ (.int .u32 0)).setCell ⟨c, 68, none⟩ (.int .i64 s.t)) c ma mb mc gl B (z2t s) l es late ∧ Chg (· = c) w (((w.setCell ⟨c, 66, none⟩ (.int .u32 (s.f 32))).setCell ⟨c, 67, none⟩ (.int .u32 0)).setCell ⟨c, 68, none⟩ (.int .i64 s.t)) := by
  have g : Chg (· = c) w (((w.setCell ⟨c, 66, none⟩ (.int .u32 (s.f 32))).setCell ⟨c, 67, none⟩ (.int .u32 0)).setCell ⟨c, 68, none⟩ (.int .i64 s.t)) := (((Chg.refl _ _).own _).own _).own _
  refine⟨h.own (((h.core.put (s':={ s with lp:=s.f 32 }) 66 _ (fun j _=>lg_lp s _ j)).put (s':={ s with lp:=s.f 32,lat:=0 }) 67 _ (fun j _=>lg_lat { s with lp:=s.f 32 } _ j)).put 68 _ (fun j _=>lg_lt { s with lp:=s.f 32,lat:=0 } _ j)) g rfl rfl rfl rfl h.x0,g⟩
theorem lstep_do {w : World} {c ma mb mc gl B : Nat} {s : CS} {l : List Int} {es : List Ev} {late : List Int} (h : z0v w c ma mb mc gl B s l es late) (hf : ∀ i, U32 (s.f i)) (hs : s.stop = false) (ht : z5y s = false) (o : St)
    (hi:∀ W,z0v W c ma mb mc gl B (z2t s) l es late→Calls Tryz.prog 27 #[.pointer (some ⟨c,0,none⟩)] W fun e w'=>InsRes o W c ma mb mc gl B (z2t s) late e w') :
    Calls Tryz.prog 10 #[.pointer (some ⟨c,0,none⟩)] w fun e w'=>e=.returned (.bool true)∧(∃ ev,z0v w' c ma mb mc gl B { o.1 with ev:=ev } o.2.1 o.2.2 late∧∀ k,ev.ownBlock=some k→s.ev.ownBlock=some k∨w.heap.size≤k)∧Chg (fun k=>k=c∨k=mb∨s.ev.ownBlock=some k) w w':=by
  have c69:=h.core.cell 69 (by decide)
  have e69:z1a s 69=.bool s.stop:=rfl
  rw[e69,hs] at c69
  have hq:=eqPtr
  have CI:Hid _:=hi
  have HF:Hid _:=hf
  have HT:Hid _:=ht
  have c33:=h.core.cell 33 (by decide)
  have e33:z1a s 33=.int .u32 (s.f 32):=rfl
  rw[e33] at c33
  have c58:=h.core.cell 58 (by decide)
  have e58:z1a s 58=.int .i64 s.t:=rfl
  rw[e58] at c58
  have c66:=h.core.cell 66 (by decide)
  have c67:=h.core.cell 67 (by decide)
  have c68:=h.core.cell 68 (by decide)
  have e66:z1a s 66=.int .u32 s.lp:=rfl
  have e67:z1a s 67=.int .u32 s.lat:=rfl
  have e68:z1a s 68=.int .i64 s.lt:=rfl
  rw[e66] at c66
  rw[e67] at c67
  rw[e68] at c68
  have f66:=h.core.free 66
  have f67:=h.core.free 67
  have f68:=h.core.free 68
  have HL:Hid _:=h.leaks
  clear h hf hs ht hi e69 e33 e58 e66 e67 e68
  obtain⟨pc,hpc⟩:∃ pc,pc=s.f 32:=⟨_,rfl⟩
  obtain⟨t,htt⟩:∃ t,t=s.t:=⟨_,rfl⟩
  rw[← hpc] at c33 HL
  rw[← htt] at c58 HL
  clear hpc htt
  go_enter Tryz.func10,Tryz.ntmps10
  go_wp2_with fail
  refine z7h 13 (by kernel_rfl) (by kernel_rfl) ?_
  simp only[List.take_succ_cons,List.take_zero,List.drop_succ_cons,List.drop_zero]
  still_step
  still_step
  still_step
  still_step
  still_step
  still_step
  still_step
  still_step
  still_step
  still_step
  still_step
  still_step
  still_step
  refine wpStill_nil ?_
  go_wp2_with fail
  have H1:Hid (z0v (((w.setCell ⟨c,66,none⟩ (.int .u32 pc)).setCell ⟨c,67,none⟩ (.int .u32 0)).setCell ⟨c,68,none⟩ (.int .i64 t)).drew c ma mb mc gl B (z2t s) l es late):=HL.out.1.below (Below.refl _ _).drew
  have G1 : Hid (Chg (· = c) w (((w.setCell ⟨c, 66, none⟩ (.int .u32 pc)).setCell ⟨c, 67, none⟩ (.int .u32 0)).setCell ⟨c, 68, none⟩ (.int .i64 t)).drew) := HL.out.2.drew
  clear HL c69 c33 c58 c66 c67 c68 f66 f67 f68
  generalize (((w.setCell ⟨c,66,none⟩ (.int .u32 pc)).setCell ⟨c,67,none⟩ (.int .u32 0)).setCell ⟨c,68,none⟩ (.int .i64 t)).drew=W1 at *
  have CCM:=lcomes H1.out.core HF.out
  rw[show z5y (z2t s)=false from HT.out] at CCM
  refine Calls.mono CCM ?_
  rintro e w2 ⟨rfl,b2⟩
  clear CCM
  have H2:Hid _:=H1.out.below b2
  have G2:Hid _:=G1.out.step b2
  clear b2 H1 G1
  go_wp2_with fail
  refine Calls.mono (CI.out _ H2.out) ?_
  intro e w3 q
  obtain rfl:=q.is
  have Q:Hid _:=q
  clear q
  go_wp2
  go_ret
  obtain⟨ev,q1,q2⟩:=Q.out.core
  exact⟨rfl,⟨ev,q1,fun k hk=>(q2 k hk).elim Or.inl (fun e=>Or.inr (Nat.le_trans G2.out.size e))⟩,G2.out.three.trans Q.out.chg⟩
theorem lstep_timer {w : World} {c ma mb mc gl B : Nat} {s : CS} {l : List Int} {es : List Ev} {late : List Int} (h : z0v w c ma mb mc gl B s l es late) (hf : ∀ i, U32 (s.f i)) (hs : s.stop = false) (ht : z5y s = true) (t0 : 0 ≤ s.t) (t1 : s.t ≤ 576460752303423488) (hn : late.length ≤ 1000) (hc0 : 0 ≤ s.came) (hmo : z4f s late ≤ 1099511627776) :
    Calls Tryz.prog 10 #[.pointer (some ⟨c, 0, none⟩)] w fun e w' => e = .returned (.bool true) ∧ (∃ la, z0v w' c ma mb mc gl B { z2t s with f := z5i s.f s.u 2147483655 0, u := false, came := s.came + 1, t := s.t + 4 + z4f s late, la := la } l es late) ∧ Chg (· = c) w w' := by
  have c69:=h.core.cell 69 (by decide)
  have e69:z1a s 69=.bool s.stop:=rfl
  rw[e69,hs] at c69
  have hq:=eqPtr
  have HN:Hid _:=And.intro hn (And.intro hc0 (And.intro hmo (And.intro t0 t1)))
  have HF:Hid _:=hf
  have HT:Hid _:=ht
  have c33:=h.core.cell 33 (by decide)
  have e33:z1a s 33=.int .u32 (s.f 32):=rfl
  rw[e33] at c33
  have c58:=h.core.cell 58 (by decide)
  have e58:z1a s 58=.int .i64 s.t:=rfl
  rw[e58] at c58
  have c66:=h.core.cell 66 (by decide)
  have c67:=h.core.cell 67 (by decide)
  have c68:=h.core.cell 68 (by decide)
  have e66:z1a s 66=.int .u32 s.lp:=rfl
  have e67:z1a s 67=.int .u32 s.lat:=rfl
  have e68:z1a s 68=.int .i64 s.lt:=rfl
  rw[e66] at c66
  rw[e67] at c67
  rw[e68] at c68
  have f66:=h.core.free 66
  have f67:=h.core.free 67
  have f68:=h.core.free 68
  have HL:Hid _:=h.leaks
  clear h hf hs ht hn hc0 hmo t0 t1 e69 e33 e58 e66 e67 e68
  obtain⟨pc,hpc⟩:∃ pc,pc=s.f 32:=⟨_,rfl⟩
  obtain⟨t,htt⟩:∃ t,t=s.t:=⟨_,rfl⟩
  rw[← hpc] at c33 HL
  rw[← htt] at c58 HL
  clear hpc htt
  go_enter Tryz.func10,Tryz.ntmps10
  go_wp2_with fail
  refine z7h 13 (by kernel_rfl) (by kernel_rfl) ?_
  simp only[List.take_succ_cons,List.take_zero,List.drop_succ_cons,List.drop_zero]
  still_step
  still_step
  still_step
  still_step
  still_step
  still_step
  still_step
  still_step
  still_step
  still_step
  still_step
  still_step
  still_step
  refine wpStill_nil ?_
  go_wp2_with fail
  have H1:Hid (z0v (((w.setCell ⟨c,66,none⟩ (.int .u32 pc)).setCell ⟨c,67,none⟩ (.int .u32 0)).setCell ⟨c,68,none⟩ (.int .i64 t)).drew c ma mb mc gl B (z2t s) l es late):=HL.out.1.below (Below.refl _ _).drew
  have G1 : Hid (Chg (· = c) w (((w.setCell ⟨c, 66, none⟩ (.int .u32 pc)).setCell ⟨c, 67, none⟩ (.int .u32 0)).setCell ⟨c, 68, none⟩ (.int .i64 t)).drew) := HL.out.2.drew
  clear HL c69 c33 c58 c66 c67 c68 f66 f67 f68
  generalize (((w.setCell ⟨c,66,none⟩ (.int .u32 pc)).setCell ⟨c,67,none⟩ (.int .u32 0)).setCell ⟨c,68,none⟩ (.int .i64 t)).drew=W1 at *
  have CCM:=lcomes H1.out.core HF.out
  rw[show z5y (z2t s)=true from HT.out] at CCM
  refine Calls.mono CCM ?_
  rintro e w2 ⟨rfl,b2⟩
  clear CCM
  have H2:Hid _:=H1.out.below b2
  have G2:Hid _:=G1.out.step b2
  clear b2 H1 G1
  go_wp2_with fail
  refine (ltrap H2.out.core HF.out 2147483655 0 HN.out.2.2.2.1 (by have:=HN.out.2.2.2.2;show s.t≤_;omega)).mono ?_
  rintro e w3 ⟨rfl,h3,g3⟩
  have H3:Hid _:=H2.out.trapped 2147483655 0 h3 g3
  have G3:Hid _:=G2.out.trans g3
  clear h3 g3 H2 G2
  have c58:w3.cell? ⟨c,58,none⟩=some (.int .i64 (s.t+4)):=H3.out.core.cell 58 (by decide)
  have f58:=H3.out.core.free 58
  have hmore:0≤z4f s late:=by
    unfold z4f
    split
    · omega
    · omega
  have v1:wrap64 (s.t+4+z4f s late)=s.t+4+z4f s late:=z0y (by have:=HN.out.2.2.2.1;omega) (by have:=HN.out.2.2.1;have:=HN.out.2.2.2.2;omega)
  have w1:IntKind.i64.wrap (s.t+4+z4f s late)=s.t+4+z4f s late:=i64_id (by have:=HN.out.2.2.2.1;omega) (by have:=HN.out.2.2.1;have:=HN.out.2.2.2.2;omega)
  have CDL:Hid _:=ldelay (H3.out.below (w':=w3.drew) (Below.refl _ _).drew).core (H3.out.below (w':=w3.drew) (Below.refl _ _).drew).lates HN.out.1 HN.out.2.1 (fun q=>(H3.out.ng q).1)
  have HMM:Hid (z4f (z1j (z2t s) 2147483655 0) late=z4f s late):=rfl
  rw[HMM.out] at CDL
  obtain⟨mo,hmo⟩:∃ mo,mo=z4f s late:=⟨_,rfl⟩
  rw[← hmo] at v1 w1 CDL
  have HMO:Hid _:=hmo
  clear hmo hmore HMM
  go_wp2_with fail
  go_region_with (first | (go_at_call 26;refine Calls.mono CDL.out ?_;rintro e wd ⟨rfl,la,hd1,hd2,hd3⟩;have c58d:wd.cell? ⟨c,58,none⟩=some (.int .i64 (s.t+4)):=hd1.cell 58 (by decide);have f58d:=hd1.free 58;have HD1:Hid _:=hd1;have HD2:Hid _:=hd2;have HD3:Hid _:=hd3;clear hd1 hd2 hd3))
  all_goals
    have L5:Hid (LAt (wd.setCell ⟨c,58,none⟩ (.int .i64 (s.t+4+mo))) c { z2t s with f:=z5i s.f s.u 2147483655 0,u:=false,came:=s.came+1,t:=s.t+4+mo,la:=la }):=⟨(HD1.out.put (s':={ (z1j (z2t s) 2147483655 0) with la:=la,t:=s.t+4+mo }) 58 (.int .i64 (s.t+4+mo)) (fun j _=>lg_t { (z1j (z2t s) 2147483655 0) with la:=la } _ j)).is⟩
    have G5 : Hid (Chg (· = c) wd (wd.setCell ⟨c, 58, none⟩ (.int .i64 (s.t + 4 + mo)))) := (Chg.refl _ _).own _
    clear c58d f58d HD1 CDL
    generalize wd.setCell ⟨c,58,none⟩ (.int .i64 (s.t+4+mo))=W6 at *
    go_wp2
    go_ret
    have GT : Chg (· = c) w3 W6 := ((Chg.of (Below.refl _ _).drew).trans HD3.out).trans G5.out
    rw[← HMO.out]
    exact⟨rfl,⟨la,⟨L5.out,H3.out.m,H3.out.mem.keep (GT.block _ H3.out.mem.there.1 H3.out.na) (GT.block _ H3.out.mem.there.2 H3.out.nb),HD2.out.chg G5.out (fun q=>(H3.out.ng q).1),z2z H3.out.ev GT (fun k hk e=>by have:=(z3k H3.out.ev k hk).1;have:=H3.out.cB;omega),H3.out.na,H3.out.nb,fun hq=>by
      obtain⟨q1,q2,q3,q4⟩:=H3.out.ng hq
      exact⟨q1,q2,q3,Nat.lt_of_lt_of_le q4 GT.size⟩,H3.out.cB,H3.out.aB,H3.out.bB,Nat.le_trans H3.out.hB GT.size,H3.out.x0⟩⟩,G3.out.trans GT⟩
theorem ldo_load {w : World} {c ma mb mc gl B : Nat} {s : CS} {l : List Int} {es : List Ev} {late : List Int} (h : z0v w c ma mb mc gl B s l es late) (hf : ∀ i, U32 (s.f i)) (nm : List UInt8) (hnm : nm ∈ z1w) (hk : z1o nm = (5, 3)) (d a b : Nat) (hd : d < 32) (ha : a < 32) (hb : b < 32) (m x : Int) (hn : nm = [108, 98] ∨ nm = [108, 104] ∨ nm = [108, 119] ∨ nm = [108, 98, 117] ∨ nm = [108, 104, 117]) (p : Int) (hp : p = (s.f a + m % 4294967296) % 4294967296) (r : Option (Int × Int)) (hr : r = (z5j s l p (z1s nm) 0).map fun k => (k, p)) (T : CS) (hT : T = match z5j s l p (z1s nm) 0 with | none => pc4 (setL { s with lat := p } d (z2r l.length l p (z1s nm) (signN nm))) | some _ => { s with lat := p }) :
    Calls Tryz.prog 44 #[.pointer (some ⟨c,0,none⟩),.agg #[.string ⟨nm.toArray⟩,.int .i64 d,.int .i64 a,.int .i64 b,.int .i32 m],.int .u32 x] w fun e w'=>z8c r (T,l,es) w c ma mb mc gl B s late e w':=by
  have CS:Hid _:=z5e nm hnm
  rw[hk] at CS
  have hfd:=fun w=>fldS (.int .i64 5) (.int .i64 3) w
  have hq:=z8j
  have HC:Hid _:=h
  have HF:Hid _:=hf
  have HNM:Hid _:=hnm
  have HK:Hid _:=hk
  have HD:Hid _:=hd
  have HA:Hid _:=ha
  have HB:Hid _:=hb
  have HN:Hid _:=hn
  have HPP:Hid _:=hp
  have HR:Hid _:=hr
  have HT:Hid _:=hT
  clear hn hp hr hT
  clear h hf hnm hk hd ha hb
  go_enter Tryz.func44,Tryz.ntmps44
  go_wp2_with fail
  have I1:=z0g w (.cells #[.string ⟨nm.toArray⟩,.int .i64 d,.int .i64 a,.int .i64 b,.int .i32 m] 52)
  have H1:Hid (z0v (w.alloc (.cells #[.string ⟨nm.toArray⟩,.int .i64 d,.int .i64 a,.int .i64 b,.int .i32 m] 52)) c ma mb mc gl B s l es late):=HC.out.below ((Below.refl _ _).alloc (Nat.le_refl _) _)
  have G1:Hid (Below w.heap.size w (w.alloc (.cells #[.string ⟨nm.toArray⟩,.int .i64 d,.int .i64 a,.int .i64 b,.int .i32 m] 52))):=(Below.refl _ _).alloc (Nat.le_refl _) _
  generalize w.alloc (.cells #[.string ⟨nm.toArray⟩,.int .i64 d,.int .i64 a,.int .i64 b,.int .i32 m] 52)=W1 at *
  generalize hws:w.heap.size=bi at *
  refine (CS.out _).mono ?_
  rintro e w2 ⟨rfl,b2⟩
  have H2:Hid (z0v w2 c ma mb mc gl B s l es late):=H1.out.below b2
  have G2:Hid (Below w.heap.size w w2):=z0e (by rw[hws];exact G1.out) b2
  obtain⟨ic,_,_⟩:=z0a (z0f I1 b2)
  have i0:=ic 0 (.string ⟨nm.toArray⟩) rfl
  have i1:=ic 1 (.int .i64 d) rfl
  have i2:=ic 2 (.int .i64 a) rfl
  have i3:=ic 3 (.int .i64 b) rfl
  have i4:=ic 4 (.int .i32 m) rfl
  clear b2 CS H1 G1 I1 ic
  go_wp2_with fail
  refine Calls.mono (lload H2.out HF.out nm HN.out d a b HD.out HA.out m p HPP.out) ?_
  intro e w3 q
  have GP : Hid (Chg (· = c) w w3) := (Chg.of G2.out).trans q.chg
  have hs2:w.heap.size≤w2.heap.size:=G2.out.size
  cases hv:z5j s l p (z1s nm) 0 with
  | none=>
    rw[hv] at q HR HT
    obtain⟨rfl,h4⟩:=q.ok rfl
    obtain⟨U,hU⟩:∃ U,U=setL { s with lat:=p } d (z2r l.length l p (z1s nm) (signN nm)):=⟨_,rfl⟩
    have HT2:Hid (T=pc4 U):=by rw[hU];exact HT.out
    have HR2:Hid (r=none):=HR.out
    have EV:Hid (∀ k,(pc4 U).ev.ownBlock=some k→s.ev.ownBlock=some k):=fun k hk=>by
      rw[hU] at hk
      have e:(setL { s with lat:=p } d (z2r l.length l p (z1s nm) (signN nm))).ev=s.ev:=(z3n _ _ _).2.2.2
      rw[← e];exact hk
    rw[← hU] at h4
    have H4:Hid _:=h4
    clear q h4 hU HT HR hv i0 i1 i2 i3 i4 H2
    have HP:Hid _:=H4.out.pc
    have c33:=H4.out.core.cell 33 (by decide)
    have f33:=H4.out.core.free 33
    have e33:z1a U 33=.int .u32 (U.f 32):=rfl
    rw[e33] at c33
    clear e33
    obtain⟨q,hq2⟩:∃ q,q=U.f 32:=⟨_,rfl⟩
    rw[← hq2] at c33 HP
    clear hq2
    go_wp2
    go_ret
    rw[HT2.out,HR2.out]
    exact⟨⟨_,HP.out,fun k hk=>Or.inl (EV.out k hk)⟩,fun _=>rfl,fun _ _ h=>(by cases h),(GP.out.own _).three⟩
  | some k=>
    rw[hv] at q HR HT
    obtain⟨h4,g,rfl,g1,g2⟩:=q.no k rfl
    have H4:Hid _:=h4
    have GF:Hid _:=g2
    have hg:w.heap.size≤g:=Nat.le_trans hs2 g1
    have HT2:Hid (T={ s with lat:=p }):=HT.out
    have HR2:Hid (r=some (k,p)):=HR.out
    clear q h4 g1 g2 HT HR hv i0 i1 i2 i3 i4 H2
    go_wp2
    go_ret
    rw[HT2.out,HR2.out]
    exact⟨⟨_,H4.out,fun k hk=>Or.inl hk⟩,fun h=>(by cases h),fun k v h=>(by cases h;exact⟨g,rfl,hg,GF.out⟩),GP.out.three⟩
theorem ldo_store {w:World} {c ma mb mc gl B:Nat} {s:CS} {l:List Int} {es:List Ev} {late:List Int} (h:z0v w c ma mb mc gl B s l es late) (hf:∀ i,U32 (s.f i)) (nm:List UInt8) (hnm:nm∈z1w) (hk:z1o nm=(6,3)) (d a b:Nat) (hd:d<32) (ha:a<32) (hb:b<32) (m x:Int) (ht:0≤s.t) (ht2:s.t≤1152921504606846976) (hlen:es.length≤1000000) (hn:nm=[115,98]∨nm=[115,104]∨nm=[115,119]) (p:Int) (hp:p=(s.f a+m%4294967296)%4294967296) (r:Option (Int × Int)) (hr:r=(stR s l p (z1s nm)).map fun k=>(k,p)) (o:St) (ho:o=match stR s l p (z1s nm) with | none=>(pc4 (stO s l es p (z1s nm) (s.f b)).1,(stO s l es p (z1s nm) (s.f b)).2) | some _=>({ s with lat:=p },l,es)) :
  Calls Tryz.prog 44 #[.pointer (some ⟨c,0,none⟩),.agg #[.string ⟨nm.toArray⟩,.int .i64 d,.int .i64 a,.int .i64 b,.int .i32 m],.int .u32 x] w fun e w'=>z8c r o w c ma mb mc gl B s late e w':=by
 have CS:Hid _:=z5e nm hnm
 rw[hk] at CS
 have hfd:=fun w=>fldS (.int .i64 6) (.int .i64 3) w
 have hq:=z8j
 have HC:Hid _:=h
 have HF:Hid _:=hf
 have HNM:Hid _:=hnm
 have HK:Hid _:=hk
 have HD:Hid _:=hd
 have HA:Hid _:=ha
 have HB:Hid _:=hb
 have HN:Hid _:=hn
 have HPP:Hid _:=hp
 have HR:Hid _:=hr
 have HO:Hid _:=ho
 have HTT:Hid _:=And.intro ht (And.intro ht2 hlen)
 clear hn hp hr ho ht ht2 hlen
 clear h hf hnm hk hd ha hb
 go_enter Tryz.func44,Tryz.ntmps44
 go_wp2_with fail
 have I1:=z0g w (.cells #[.string ⟨nm.toArray⟩,.int .i64 d,.int .i64 a,.int .i64 b,.int .i32 m] 52)
 have H1:Hid (z0v (w.alloc (.cells #[.string ⟨nm.toArray⟩,.int .i64 d,.int .i64 a,.int .i64 b,.int .i32 m] 52)) c ma mb mc gl B s l es late):=HC.out.below ((Below.refl _ _).alloc (Nat.le_refl _) _)
 have G1:Hid (Below w.heap.size w (w.alloc (.cells #[.string ⟨nm.toArray⟩,.int .i64 d,.int .i64 a,.int .i64 b,.int .i32 m] 52))):=(Below.refl _ _).alloc (Nat.le_refl _) _
 generalize w.alloc (.cells #[.string ⟨nm.toArray⟩,.int .i64 d,.int .i64 a,.int .i64 b,.int .i32 m] 52)=W1 at *
 generalize hws:w.heap.size=bi at *
 refine (CS.out _).mono ?_
 rintro e w2 ⟨rfl,b2⟩
 have H2:Hid (z0v w2 c ma mb mc gl B s l es late):=H1.out.below b2
 have G2:Hid (Below w.heap.size w w2):=z0e (by rw[hws];exact G1.out) b2
 obtain⟨ic,_,_⟩:=z0a (z0f I1 b2)
 have i0:=ic 0 (.string ⟨nm.toArray⟩) rfl
 have i1:=ic 1 (.int .i64 d) rfl
 have i2:=ic 2 (.int .i64 a) rfl
 have i3:=ic 3 (.int .i64 b) rfl
 have i4:=ic 4 (.int .i32 m) rfl
 clear b2 CS H1 G1 I1 ic
 go_wp2_with fail
 refine Calls.mono (lstore H2.out HF.out HTT.out.1 HTT.out.2.1 HTT.out.2.2 nm HN.out d a b HA.out HB.out m p HPP.out) ?_
 intro e w3 q
 have GP:Hid (Chg (fun k=>k=c∨k=mb∨s.ev.ownBlock=some k) w w3):=(Chg.of G2.out).trans q.chg
 have hs2:w.heap.size≤w2.heap.size:=G2.out.size
 cases hv:stR s l p (z1s nm) with
 | none=>
  rw[hv] at q HR HO
  obtain⟨rfl,ev,h4,h5⟩:=q.ok rfl
  obtain⟨U,hU⟩:∃ U,U=stO s l es p (z1s nm) (s.f b):=⟨_,rfl⟩
  have HO2:Hid (o=(pc4 U.1,U.2)):=by rw[hU];exact HO.out
  have HR2:Hid (r=none):=HR.out
  rw[← hU] at h4
  have H4:Hid _:=h4
  have H5:Hid _:=h5
  clear q h4 h5 hU HO HR hv i0 i1 i2 i3 i4 H2
  have HP:Hid _:=H4.out.pc
  have c33:=H4.out.core.cell 33 (by decide)
  have f33:=H4.out.core.free 33
  have e33:z1a { U.1 with ev:=ev } 33=.int .u32 (U.1.f 32):=rfl
  rw[e33] at c33
  clear e33
  obtain⟨q,hq2⟩:∃ q,q=U.1.f 32:=⟨_,rfl⟩
  have HP2:Hid (z0v (w3.setCell ⟨c,33,none⟩ (.int .u32 ((q+4)%4294967296))) c ma mb mc gl B { (pc4 U.1) with ev:=ev } U.2.1 U.2.2 late):=by rw[hq2];exact HP.out
  rw[← hq2] at c33
  clear hq2 HP
  go_wp2
  go_ret
  rw[HO2.out,HR2.out]
  exact⟨⟨ev,HP2.out,fun k hk=>(H5.out k hk).elim Or.inl (fun e=>Or.inr (Nat.le_trans hs2 e))⟩,fun _=>rfl,fun _ _ h=>(by cases h),GP.out.set (O:=fun k=>k=c∨k=mb∨s.ev.ownBlock=some k) (Or.inl rfl) _⟩
 | some k=>
  rw[hv] at q HR HO
  obtain⟨h4,g,rfl,g1,g2⟩:=q.no k rfl
  have H4:Hid _:=h4
  have GF:Hid _:=g2
  have hg:w.heap.size≤g:=Nat.le_trans hs2 g1
  have HO2:Hid (o=({ s with lat:=p },l,es)):=HO.out
  have HR2:Hid (r=some (k,p)):=HR.out
  clear q h4 g1 g2 HO HR hv i0 i1 i2 i3 i4 H2
  go_wp2
  go_ret
  rw[HO2.out,HR2.out]
  exact⟨⟨_,H4.out,fun k hk=>Or.inl hk⟩,fun h=>(by cases h),fun k v h=>(by cases h;exact⟨g,rfl,hg,GF.out⟩),GP.out⟩
theorem ldo_ret {w : World} {c ma mb mc gl B : Nat} {s : CS} {l : List Int} {es : List Ev} {late : List Int} (h : z0v w c ma mb mc gl B s l es late) (hf : ∀ i, U32 (s.f i)) (nm : List UInt8) (hnm : nm ∈ z1w) (hk : z1o nm = (10, 1)) (d a b : Nat) (hd : d < 32) (ha : a < 32) (hb : b < 32) (m x : Int) :
    Calls Tryz.prog 44 #[.pointer (some ⟨c,0,none⟩),.agg #[.string ⟨nm.toArray⟩,.int .i64 d,.int .i64 a,.int .i64 b,.int .i32 m],.int .u32 x] w fun e w'=>z8c none ({ s with f:=retF s.f,u:=retU s.f },l,es) w c ma mb mc gl B s late e w':=by
  have CS:Hid _:=z5e nm hnm
  rw[hk] at CS
  have hfd:=fun w=>fldS (.int .i64 10) (.int .i64 1) w
  have hq:=z8j
  have HC:Hid _:=h
  have HF:Hid _:=hf
  have HNM:Hid _:=hnm
  have HK:Hid _:=hk
  have HD:Hid _:=hd
  have HA:Hid _:=ha
  have HB:Hid _:=hb
  obtain⟨fs,hfs⟩:=z3f
  have HS:Hid _:=hfs
  have CR:Hid _:=fun w=>nRet s.f s.u hf w
  clear hfs
  clear h hf hnm hk hd ha hb
  go_enter Tryz.func44,Tryz.ntmps44
  go_wp2_with fail
  have I1:=z0g w (.cells #[.string ⟨nm.toArray⟩,.int .i64 d,.int .i64 a,.int .i64 b,.int .i32 m] 52)
  have H1:Hid (z0v (w.alloc (.cells #[.string ⟨nm.toArray⟩,.int .i64 d,.int .i64 a,.int .i64 b,.int .i32 m] 52)) c ma mb mc gl B s l es late):=HC.out.below ((Below.refl _ _).alloc (Nat.le_refl _) _)
  have G1:Hid (Below w.heap.size w (w.alloc (.cells #[.string ⟨nm.toArray⟩,.int .i64 d,.int .i64 a,.int .i64 b,.int .i32 m] 52))):=(Below.refl _ _).alloc (Nat.le_refl _) _
  generalize w.alloc (.cells #[.string ⟨nm.toArray⟩,.int .i64 d,.int .i64 a,.int .i64 b,.int .i32 m] 52)=W1 at *
  generalize hws:w.heap.size=bi at *
  refine (CS.out _).mono ?_
  rintro e w2 ⟨rfl,b2⟩
  have H2:Hid (z0v w2 c ma mb mc gl B s l es late):=H1.out.below b2
  have G2:Hid (Below w.heap.size w w2):=z0e (by rw[hws];exact G1.out) b2
  obtain⟨ic,_,_⟩:=z0a (z0f I1 b2)
  have i0:=ic 0 (.string ⟨nm.toArray⟩) rfl
  have i1:=ic 1 (.int .i64 d) rfl
  have i2:=ic 2 (.int .i64 a) rfl
  have i3:=ic 3 (.int .i64 b) rfl
  have i4:=ic 4 (.int .i32 m) rfl
  clear b2 CS H1 G1 I1 ic
  clear i0 i1 i2 i3 i4
  go_wp2_with (first | (refine z0w (by rfl) 32 (.tmp 59) rfl c 1 rfl (z0c s.f s.u) _ H2.out.core.regs HS.out rfl (by rw[z0b];exact z0o) ?_))
  refine (CR.out _).mono ?_
  rintro e w3 ⟨rfl,b3⟩
  have H3:Hid _:=H2.out.below b3
  have GP : Hid (Chg (· = c) w w3) := (Chg.of G2.out).step b3
  obtain⟨R,hR⟩:∃ R,R=retF s.f:=⟨_,rfl⟩
  obtain⟨u2,hu2⟩:∃ u2,u2=retU s.f:=⟨_,rfl⟩
  rw[← hR,← hu2]
  have HRU:Hid _:=And.intro hR hu2
  have hR0:Hid (R 0=0):=by rw[hR];exact H2.out.x0
  clear b3 CR H2 hR hu2
  rename_i K1 hK1 K2 hK2
  refine hK2 _ _ ?_
  refine z3b ?_ (some 62) rfl (by rfl) ?_ ?_
  rotate_left
  · go_simp
    try with_reducible rfl
  simp only[Act.put,List.setIfInBounds_toArray,List.set_cons_zero,List.set_cons_succ]
  refine z3b ?_ (some 63) rfl (by rfl) ?_ ?_
  rotate_left
  · go_simp
    try with_reducible rfl
  simp only[Act.put,List.setIfInBounds_toArray,List.set_cons_zero,List.set_cons_succ]
  refine z1v rfl 32 (.tmp 63) (.tmp 61) rfl c 1 (z0c R u2) rfl rfl (by rw[z0b];exact H3.out.core.there) (by rw[z0b];exact z0o) (z0s _ _) ?_
  intro W4 e4
  have HE4:Hid _:=e4
  clear e4
  go_wp2
  have e4:=HE4.out
  go_ret
  have L4:LAt W4 c { s with f:=R,u:=u2 }:=by rw[e4];exact H3.out.core.regsIn _ _
  have K4 : Chg (· = c) w3 W4 := by rw [e4]; exact (Chg.refl _ _).owns _
  rw[← HRU.out.1,← HRU.out.2]
  exact⟨⟨_,H3.out.own L4 K4 rfl rfl rfl rfl hR0.out,fun k hk=>Or.inl hk⟩,fun _=>rfl,fun _ _ h=>(by cases h),(GP.out.trans K4).three⟩
theorem ldo_statusBad {w:World} {c ma mb mc gl B:Nat} {s:CS} {l:List Int} {es:List Ev} {late:List Int} (h:z0v w c ma mb mc gl B s l es late) (hf:∀ i,U32 (s.f i)) (nm:List UInt8) (hnm:nm∈z1w) (hk:z1o nm=(9,2)) (d a b:Nat) (hd:d<32) (ha:a<32) (hb:b<32) (m x:Int) (hm:0≤m∧m<4096) (hr:z2b m≠0) :
  Calls Tryz.prog 44 #[.pointer (some ⟨c,0,none⟩),.agg #[.string ⟨nm.toArray⟩,.int .i64 d,.int .i64 a,.int .i64 b,.int .i32 m],.int .u32 x] w fun e w'=>z8c (some (2,x)) (s,l,es) w c ma mb mc gl B s late e w':=by
 have CS:Hid _:=z5e nm hnm
 rw[hk] at CS
 have hfd:=fun w=>fldS (.int .i64 9) (.int .i64 2) w
 have hq:=z8j
 have HC:Hid _:=h
 have HF:Hid _:=hf
 have HNM:Hid _:=hnm
 have HK:Hid _:=hk
 have HD:Hid _:=hd
 have HA:Hid _:=ha
 have HB:Hid _:=hb
 have HM:Hid _:=And.intro hm hr
 clear hm hr
 clear h hf hnm hk hd ha hb
 go_enter Tryz.func44,Tryz.ntmps44
 go_wp2_with fail
 have I1:=z0g w (.cells #[.string ⟨nm.toArray⟩,.int .i64 d,.int .i64 a,.int .i64 b,.int .i32 m] 52)
 have H1:Hid (z0v (w.alloc (.cells #[.string ⟨nm.toArray⟩,.int .i64 d,.int .i64 a,.int .i64 b,.int .i32 m] 52)) c ma mb mc gl B s l es late):=HC.out.below ((Below.refl _ _).alloc (Nat.le_refl _) _)
 have G1:Hid (Below w.heap.size w (w.alloc (.cells #[.string ⟨nm.toArray⟩,.int .i64 d,.int .i64 a,.int .i64 b,.int .i32 m] 52))):=(Below.refl _ _).alloc (Nat.le_refl _) _
 generalize w.alloc (.cells #[.string ⟨nm.toArray⟩,.int .i64 d,.int .i64 a,.int .i64 b,.int .i32 m] 52)=W1 at *
 generalize hws:w.heap.size=bi at *
 refine (CS.out _).mono ?_
 rintro e w2 ⟨rfl,b2⟩
 have H2:Hid (z0v w2 c ma mb mc gl B s l es late):=H1.out.below b2
 have G2:Hid (Below w.heap.size w w2):=z0e (by rw[hws];exact G1.out) b2
 obtain⟨ic,_,_⟩:=z0a (z0f I1 b2)
 have i0:=ic 0 (.string ⟨nm.toArray⟩) rfl
 have i1:=ic 1 (.int .i64 d) rfl
 have i2:=ic 2 (.int .i64 a) rfl
 have i3:=ic 3 (.int .i64 b) rfl
 have i4:=ic 4 (.int .i32 m) rfl
 clear b2 CS H1 G1 I1 ic
 go_wp2_with fail
 refine (lstatus_bad H2.out.core HF.out nm d a b m x HM.out.1 HM.out.2).mono ?_
 rintro e w3 ⟨g,rfl,g1,g2,g3⟩
 have H4:Hid _:=H2.out.below g3
 have GP:Hid (Below w.heap.size w w3):=z0e G2.out g3
 have GF:Hid _:=g2
 have hg:w.heap.size≤g:=Nat.le_trans G2.out.size g1
 clear g1 g2 g3 i0 i1 i2 i3 i4 H2
 go_wp2
 go_ret
 exact⟨⟨_,H4.out,fun k hk=>Or.inl hk⟩,fun h=>(by cases h),fun k v h=>(by cases h;exact⟨g,rfl,hg,GF.out⟩),Chg.of GP.out⟩
theorem set0_same {f:Nat→Int} (h:f 0=0):set1 f 0 0=f:=by
 funext j
 unfold set1
 split
 ·rename_i e;rw[e,h]
 ·rfl
theorem x0_next {s:CS} (h:s.f 0=0) (d:Nat) (x pc k:Int) (l:List Int) (es:List Ev) :
  x0C (z2k { s with f:=set1 s.f d x } pc k,l,es)=({ (setL s d x) with f:=set1 (setL s d x).f 32 pc,t:=s.t+k },l,es):=by
 unfold x0C z2k setL
 by_cases hd:d=0
 ·subst hd
  rw[if_pos rfl]
  simp only
  congr 2
  funext j
  unfold set1
  by_cases h0:j=0
  ·subst h0;simp[h]
  ·simp[h0]
 ·rw[if_neg hd]
  simp only
  congr 2
  funext j
  unfold set1
  by_cases h0:j=0
  ·subst h0
   simp[h,Ne.symm hd]
  ·simp[h0]
theorem x0_plain {s:CS} (h:s.f 0=0) (pc k:Int) (l:List Int) (es:List Ev):x0C (z2k s pc k,l,es)=({ s with f:=set1 s.f 32 pc,t:=s.t+k },l,es):=by
 unfold x0C z2k
 simp only
 congr 2
 exact set0_same (by unfold set1;simpa using h)
theorem z4u {s:CS} (h:s.f 0=0) (c v:Int) (l:List Int) (es:List Ev):x0C (z1j s c v,l,es)=(z1j s c v,l,es):=by
 unfold x0C z1j
 simp only
 congr 2
 exact set0_same (by unfold z5i;simpa using h)
theorem x0_branch {s:CS} (h:s.f 0=0) (is:Bool) (m:Int) (l:List Int) (es:List Ev):x0C (z4a s is m,l,es)=(z4a s is m,l,es):=by
 unfold x0C z4a
 simp only
 congr 2
 exact set0_same (by unfold set1;simpa using h)
theorem x0_ret {s:CS} (h:s.f 0=0) (l:List Int) (es:List Ev):x0C (retC s,l,es)=(retC s,l,es):=by
 unfold x0C retC
 simp only
 congr 2
 exact set0_same (by unfold retF;simpa using h)
theorem slt_wrap {x y:Int}:(opN [115,108,116] x y==1)=decide (wrap32 x<wrap32 y):=by
 show (wSlt x y==1)=_
 unfold wSlt
 by_cases h:wrap32 x<wrap32 y
 ·rw[if_pos h];simp[h]
 ·rw[if_neg h];simp[h]
theorem ask_four {k:Nat} {p n:Int} (hn:n=1∨n=2∨n=4):askV k p n=4↔p%n≠0:=by
 unfold askV
 rw[if_neg (by rw[(z7f n).2 hn];decide)]
 by_cases h:p%n≠0
 ·rw[if_pos h];simp[h]
 ·rw[if_neg h]
  constructor
  ·intro e
   split at e <;> cases e
  ·intro e;exact absurd e h
theorem load_plain (s:CS) (l:List Int) (d:Nat) (p n:Int) (sg:Bool) (hn:n=1∨n=2∨n=4) :
  z3m s l d p n sg=match z5j s l p n 0 with
   | some k=>z1j { s with lat:=p } k p
   | none=>z2k { s with lat:=p,f:=set1 s.f d (z2r l.length l p n sg) } ((s.f 32+4)%4294967296) 2:=by
 unfold z3m z5j
 by_cases h1:p%n≠0
 ·rw[if_pos ((ask_four hn).2 h1),if_pos h1]
  rfl
 ·rw[if_neg (fun e=>h1 ((ask_four hn).1 e)),if_neg h1]
  by_cases h2:z5m s p n 0=false
  ·rw[if_pos (Or.inr h2),if_pos h2]
   rfl
  ·by_cases h3:askV l.length p n≠0
   ·rw[if_pos (Or.inl h3),if_neg h2,if_pos h3]
    rfl
   ·rw[if_neg (fun e=>e.elim h3 h2),if_neg h2,if_neg h3]
    have h4:askV l.length p n=0:=Classical.not_not.mp h3
    show _=z2k { s with lat:=p,f:=set1 s.f d (z2r l.length l p n sg) } _ 2
    unfold z2r
    rw[if_pos h4]
theorem stR_bar {s:CS} {l:List Int} {p n k:Int} (h:barV s p n 1=some k):stR s l p n=some k:=by unfold stR;rw[h]
theorem stR_free {s:CS} {l:List Int} {p n:Int} (h:barV s p n 1=none):stR s l p n=if z7u s p n then none else if askV l.length p n≠0 then some 7 else none:=by unfold stR;rw[h]
theorem store_far (s:CS) (l:List Int) (es:List Ev) (p n x:Int) (h1:¬p%n≠0) (hd:z7u s p n=false) (hx:∀ q,devB q=true→¬(s.u=false∧n=4∧p=q)) :
  z4z s l es p n x=match stR s l p n with
   | some k=>(z1j { s with lat:=p } k p,l,es)
   | none=>(onS (stO s l es p n x).1,(stO s l es p n x).2.1,(stO s l es p n x).2.2):=by
 unfold z4z
 rw[if_neg h1,if_neg (hx _ (by decide)),if_neg (hx _ (by decide)),if_neg (hx _ (by decide)),if_neg (hx _ (by decide)),if_neg (hx _ (by decide))]
 by_cases h2:z5m s p n 1=false
 ·rw[if_pos h2,stR_bar (k:=7) (by unfold barV;rw[if_neg h1,if_pos h2];rfl)]
 ·have hb:barV s p n 1=none:=by unfold barV;rw[if_neg h1,if_neg h2]
  rw[if_neg h2,stR_free hb,hd]
  by_cases h3:askV l.length p n≠0
  ·rw[if_pos h3,if_neg (by decide),if_pos h3]
  ·rw[if_neg h3,if_neg (by decide),if_neg h3]
   unfold stO z5z
   rw[hd,if_neg (by decide),if_pos (Classical.not_not.mp h3)]
theorem store_plain (s:CS) (l:List Int) (es:List Ev) (p n x:Int) :
  z4z s l es p n x=match stR s l p n with
   | some k=>(z1j { s with lat:=p } k p,l,es)
   | none=>(onS (stO s l es p n x).1,(stO s l es p n x).2.1,(stO s l es p n x).2.2):=by
 by_cases h1:p%n≠0
 ·rw[stR_bar (k:=6) (by unfold barV;rw[if_pos h1];rfl)]
  unfold z4z
  rw[if_pos h1]
 by_cases hd:z7u s p n=true
 ·have hd':=hd
  unfold z7u at hd'
  simp only[Bool.and_eq_true,Bool.not_eq_true',beq_iff_eq] at hd'
  obtain⟨⟨hu,h4⟩,hv⟩:=hd'
  have h2:z5m s p n 1=true:=by unfold z5m;rw[hu];rfl
  have hb:barV s p n 1=none:=by unfold barV;rw[if_neg h1,if_neg (by rw[h2];decide)]
  rw[stR_free hb,if_pos hd]
  unfold stO
  rw[if_pos hd]
  unfold z4z
  rw[if_neg h1]
  simp only[devB,Bool.or_eq_true,beq_iff_eq] at hv
  rcases hv with (((e | e) | e) | e) | e <;> subst e <;> simp[hu,h4,tellO]
 ·have hd0:z7u s p n=false:=by simpa using hd
  refine store_far s l es p n x h1 hd0 fun q hq e=>hd ?_
  unfold z7u
  rw[e.1,e.2.1,e.2.2,hq]
  rfl
theorem ldo_status {w : World} {c ma mb mc gl B : Nat} {s : CS} {l : List Int} {es : List Ev} {late : List Int} (h : z0v w c ma mb mc gl B s l es late) (hf : ∀ i, U32 (s.f i)) (nm : List UInt8) (hnm : nm ∈ z1w) (hk : z1o nm = (9, 2)) (d a b : Nat) (hd : d < 32) (ha : a < 32) (_hb : b < 32) (m x : Int) (hn : nm = [99, 115, 114, 114, 119] ∨ nm = [99, 115, 114, 114, 115] ∨ nm = [99, 115, 114, 114, 99]) (hm : 0 ≤ m ∧ m < 4096) (hr : z2b m = 0) (wr : Bool) (hwr : wr = true ↔ (nm = [99, 115, 114, 114, 119] ∨ a ≠ 0)) (F : Nat → Int) (hF : F = if wr then z2o s.f m (z4v nm (z4e s.f m s.t (dueV s)) (s.f a)) else s.f) (hF0 : F 0 = 0) (bad : Bool) (hbad : bad = (wr && z2y m != 0)) (r : Option (Int × Int)) (hrr : r = if bad then some (2, x) else none) (T : CS) (hT : T = if bad then s else pc4 (setL { s with f := F } d (z4e s.f m s.t (dueV s)))) :
    Calls Tryz.prog 44 #[.pointer (some ⟨c,0,none⟩),.agg #[.string ⟨nm.toArray⟩,.int .i64 d,.int .i64 a,.int .i64 b,.int .i32 m],.int .u32 x] w fun e w'=>z8c r (T,l,es) w c ma mb mc gl B s late e w':=by
  have CS:Hid _:=z5e nm hnm
  rw[hk] at CS
  have hfd:=fun w=>fldS (.int .i64 9) (.int .i64 2) w
  have hq:=z8j
  have HC:Hid _:=h
  have HF:Hid _:=hf
  have HD:Hid _:=hd
  have HA:Hid _:=ha
  have HN:Hid _:=hn
  have HM:Hid _:=And.intro hm hr
  have HWR:Hid _:=hwr
  have HFF:Hid _:=And.intro hF hF0
  have HBAD:Hid _:=hbad
  have HR:Hid _:=hrr
  have HT:Hid _:=hT
  clear hm hr hn hwr hF hF0 hbad hrr hT
  clear h hf hnm hk hd ha
  go_enter Tryz.func44,Tryz.ntmps44
  go_wp2_with fail
  have I1:=z0g w (.cells #[.string ⟨nm.toArray⟩,.int .i64 d,.int .i64 a,.int .i64 b,.int .i32 m] 52)
  have H1:Hid (z0v (w.alloc (.cells #[.string ⟨nm.toArray⟩,.int .i64 d,.int .i64 a,.int .i64 b,.int .i32 m] 52)) c ma mb mc gl B s l es late):=HC.out.below ((Below.refl _ _).alloc (Nat.le_refl _) _)
  have G1:Hid (Below w.heap.size w (w.alloc (.cells #[.string ⟨nm.toArray⟩,.int .i64 d,.int .i64 a,.int .i64 b,.int .i32 m] 52))):=(Below.refl _ _).alloc (Nat.le_refl _) _
  generalize w.alloc (.cells #[.string ⟨nm.toArray⟩,.int .i64 d,.int .i64 a,.int .i64 b,.int .i32 m] 52)=W1 at *
  generalize hws:w.heap.size=bi at *
  refine (CS.out _).mono ?_
  rintro e w2 ⟨rfl,b2⟩
  have H2:Hid (z0v w2 c ma mb mc gl B s l es late):=H1.out.below b2
  have G2:Hid (Below w.heap.size w w2):=z0e (by rw[hws];exact G1.out) b2
  obtain⟨ic,_,_⟩:=z0a (z0f I1 b2)
  have i0:=ic 0 (.string ⟨nm.toArray⟩) rfl
  have i1:=ic 1 (.int .i64 d) rfl
  have i2:=ic 2 (.int .i64 a) rfl
  have i3:=ic 3 (.int .i64 b) rfl
  have i4:=ic 4 (.int .i32 m) rfl
  clear b2 CS H1 G1 I1 ic
  go_wp2_with fail
  refine Calls.mono (lstatus H2.out.core HF.out nm HN.out d a b HD.out HA.out m x HM.out.1 HM.out.2 wr HWR.out F HFF.out.1 bad HBAD.out) ?_
  intro e w3 q
  have GP : Hid (Chg (· = c) w w3) := (Chg.of G2.out).trans q.chg
  have hs2:w.heap.size≤w2.heap.size:=G2.out.size
  cases bad with
  | false=>
    obtain⟨rfl,h3⟩:=q.ok rfl
    obtain⟨U,hU⟩:∃ U,U=setL { s with f:=F } d (z4e s.f m s.t (dueV s)):=⟨_,rfl⟩
    have HT2:Hid (T=pc4 U):=by rw[hU];exact HT.out
    have HR2:Hid (r=none):=HR.out
    have E4:U.m=s.m∧U.la=s.la∧U.came=s.came∧U.ev=s.ev:=by rw[hU];exact z3n { s with f:=F } _ _
    have E0:U.f 0=0:=by rw[hU];exact z8n (s:={ s with f:=F }) HFF.out.2 _ _
    rw[← hU] at h3
    have EV:Hid (∀ k,(pc4 U).ev.ownBlock=some k→s.ev.ownBlock=some k):=fun k hk=>by
      rw[← E4.2.2.2];exact hk
    have H4:Hid (z0v w3 c ma mb mc gl B U l es late):=H2.out.own h3 q.chg E4.1 E4.2.1 E4.2.2.1 E4.2.2.2 E0
    clear q h3 hU HT HR i0 i1 i2 i3 i4 H2 E4 E0 HFF HBAD HWR
    have HP:Hid _:=H4.out.pc
    have c33:=H4.out.core.cell 33 (by decide)
    have f33:=H4.out.core.free 33
    have e33:z1a U 33=.int .u32 (U.f 32):=rfl
    rw[e33] at c33
    clear e33
    obtain⟨q,hq2⟩:∃ q,q=U.f 32:=⟨_,rfl⟩
    rw[← hq2] at c33 HP
    clear hq2
    go_wp2
    go_ret
    rw[HT2.out,HR2.out]
    exact⟨⟨_,HP.out,fun k hk=>Or.inl (EV.out k hk)⟩,fun _=>rfl,fun _ _ h=>(by cases h),(GP.out.own _).three⟩
  | true=>
    obtain⟨h3,g,rfl,g1,g2⟩:=q.no rfl
    have H4:Hid (z0v w3 c ma mb mc gl B s l es late):=H2.out.own h3 q.chg rfl rfl rfl rfl H2.out.x0
    have GF:Hid _:=g2
    have hg:w.heap.size≤g:=Nat.le_trans hs2 g1
    have HT2:Hid (T=s):=HT.out
    have HR2:Hid (r=some (2,x)):=HR.out
    clear q h3 g1 g2 HT HR i0 i1 i2 i3 i4 H2 HFF HBAD HWR
    go_wp2
    go_ret
    rw[HT2.out,HR2.out]
    exact⟨⟨_,H4.out,fun k hk=>Or.inl hk⟩,fun h=>(by cases h),fun k v h=>(by cases h;exact⟨g,rfl,hg,GF.out⟩),GP.out.three⟩
section
structure z8b (c ma mb mc gl B:Nat) (s:CS) (l:List Int) (es:List Ev) (late:List Int) (o:St):Prop where
 is:∀ W,z0v W c ma mb mc gl B s l es late→Calls Tryz.prog 27 #[.pointer (some ⟨c,0,none⟩)] W fun e w'=>InsRes o W c ma mb mc gl B s late e w'
structure FetGo (c ma mb mc gl B:Nat) (s:CS) (l:List Int) (es:List Ev) (late:List Int) (nm:List UInt8) (d a b:Nat) (m x:Int):Prop where
 is:∀ W,z0v W c ma mb mc gl B s l es late→Calls Tryz.prog 43 #[.pointer (some ⟨c,0,none⟩)] W fun e w'=>FetchOk nm d a b m x W e w'
variable {c ma mb mc gl B:Nat} {s:CS} {l:List Int} {es:List Ev} {late:List Int} {nm:List UInt8} {d a b:Nat} {m x:Int}
theorem ins_eq {o o':St} (e:s.f 0=0→o=o') (h:z8b c ma mb mc gl B s l es late o):z8b c ma mb mc gl B s l es late o':=⟨fun W hW=>by rw[← e hW.x0];exact h.is W hW⟩
theorem setL_pc (hd:d<32) (v:Int):(setL s d v).f 32=s.f 32:=by
 unfold setL
 split
 ·rfl
 ·show set1 s.f d v 32=_
  unfold set1
  rw[if_neg (by omega)]
theorem z3t (v:Int):(setL s d v).t=s.t:=by unfold setL;split <;> rfl
theorem set_eq (h0:s.f 0=0) (hd:d<32) (v k:Int):(({ (pc4 (setL s d v)) with t:=(pc4 (setL s d v)).t+k },l,es):St)=x0C (z2k { s with f:=set1 s.f d v } ((s.f 32+4)%4294967296) k,l,es):=by
 rw[x0_next h0]
 unfold pc4
 rw[setL_pc hd,show ({ (setL s d v) with f:=set1 (setL s d v).f 32 ((s.f 32+4)%4294967296) }:CS).t=s.t from z3t v]
theorem z6b (hf:∀ i,U32 (s.f i)) (hfe:FetGo c ma mb mc gl B s l es late nm d a b m x) (o:St) (kk ff ct:Int) (hnm:nm∈z1w) (hsh:z1o nm=(kk,ff)) (hct:(kk,ff,ct)∈z4h) (ht:0≤o.1.t+ct) (ht2:o.1.t+ct≤1152921504606846976) (o':St) (e:s.f 0=0→({ o.1 with t:=o.1.t+ct },o.2.1,o.2.2)=o')
  (hdo:∀ W,z0v W c ma mb mc gl B s l es late→Calls Tryz.prog 44 #[.pointer (some ⟨c,0,none⟩),.agg #[.string ⟨nm.toArray⟩,.int .i64 d,.int .i64 a,.int .i64 b,.int .i32 m],.int .u32 x] W fun e w'=>z8c none o W c ma mb mc gl B s late e w'):z8b c ma mb mc gl B s l es late o':=
 ins_eq e ⟨fun _ hW=>linstruct_ok hW hf nm d a b m x hfe.is o kk ff ct hnm hsh hct ht ht2 hdo⟩
theorem ins_no (hf:∀ i,U32 (s.f i)) (ht:0≤s.t) (ht2:s.t≤1152921504606846976) (hfe:FetGo c ma mb mc gl B s l es late nm d a b m x) (o:St) (k v:Int) (hso:s.t=o.1.t∧∀ i,U32 (o.1.f i)) (o':St) (e:s.f 0=0→(z1j o.1 k v,o.2.1,o.2.2)=o')
  (hdo:∀ W,z0v W c ma mb mc gl B s l es late→Calls Tryz.prog 44 #[.pointer (some ⟨c,0,none⟩),.agg #[.string ⟨nm.toArray⟩,.int .i64 d,.int .i64 a,.int .i64 b,.int .i32 m],.int .u32 x] W fun e w'=>z8c (some (k,v)) o W c ma mb mc gl B s late e w'):z8b c ma mb mc gl B s l es late o':=
 ins_eq e ⟨fun _ hW=>linstruct_fault hW hf nm d a b m x hfe.is o k v hso ht ht2 hdo⟩
def preI (n : List UInt8) : List UInt8 := n.takeWhile (· != 105)
def postI (n : List UInt8) : List UInt8 := (n.dropWhile (· != 105)).drop 1
theorem tab_mem {n:List UInt8} (h:(z6q.lookup n).isSome=true):∃ q∈z6q,q.1=n:=by
 obtain⟨v,hv⟩:=Option.isSome_iff_exists.1 h
 obtain⟨l1,l2,e,_⟩:=List.lookup_eq_some_iff.1 hv
 exact⟨(n,v),by rw[e];simp,rfl⟩
theorem tab_R:∀ q∈z6q,q.2.2.2=false→q.2.1=q.1∧q.1∈z1w∧((z1o q.1=(1,2)∧q.2.2.1=1)∨(z1o q.1=(2,2)∧q.2.2.1=3)∨(z1o q.1=(3,2)∧q.2.2.1=20)):=by decide +kernel
theorem tab_I:∀ q∈z6q,q.2.2.2=true→q.1∈z1w∧z1o q.1=(1,3)∧q.2.2.1=1∧q.1=preI q.1++105::postI q.1∧(105:UInt8)∉preI q.1∧(105:UInt8)∉postI q.1∧(preI q.1).length≤100∧(postI q.1).length≤100∧q.2.1=preI q.1++postI q.1:=by decide +kernel
theorem insC_tab:∀ q∈z6q,∀ (s:CS) (l:List Int) (es:List Ev) (d a b:Nat) (m x:Int),insC s l es ⟨q.1,d,a,b,m⟩ x=(opS s q.2.1 d (s.f a) (if q.2.2.2 then m%4294967296 else s.f b) q.2.2.1,l,es):=by
 intro q hq
 simp only[z6q,List.mem_cons,List.not_mem_nil,or_false] at hq
 rcases hq with rfl | rfl | rfl | rfl | rfl | rfl | rfl | rfl | rfl | rfl | rfl | rfl | rfl | rfl | rfl | rfl | rfl | rfl | rfl | rfl | rfl | rfl | rfl | rfl | rfl | rfl | rfl
 all_goals (intros;rfl)
theorem ins_o (hf:∀ i,U32 (s.f i)) (ht:0≤s.t) (ht2:s.t≤1152921504606846000) (hd:d<32) (ha:a<32) (hb:b<32) (hfe:FetGo c ma mb mc gl B s l es late nm d a b m x) (ho:(z6q.lookup nm).isSome=true) :
  z8b c ma mb mc gl B s l es late (x0C (insC s l es ⟨nm,d,a,b,m⟩ x)):=by
 obtain⟨q,hq,rfl⟩:=tab_mem ho
 rw[insC_tab q hq]
 obtain⟨n,n2,ct,im⟩:=q
 cases im with
 | false=>
  obtain⟨e1,e2,e3⟩:=tab_R _ hq rfl
  simp only at e1 e2 e3
  subst e1
  rcases e3 with ⟨h1,rfl⟩ | ⟨h1,rfl⟩ | ⟨h1,rfl⟩
  ·exact z6b hf hfe (pc4 (setL s d (opN n2 (s.f a) (s.f b))),l,es) 1 2 1 e2 h1 (by decide) (by show 0≤(setL s d _).t+1;rw[z3t];omega) (by show (setL s d _).t+1≤_;rw[z3t];omega) _ (fun h0=>set_eq h0 hd _ _) (fun W hW=>ldo_R1 hW hf n2 e2 h1 d a b hd ha hb m x _ rfl)
  ·exact z6b hf hfe (pc4 (setL s d (opN n2 (s.f a) (s.f b))),l,es) 2 2 3 e2 h1 (by decide) (by show 0≤(setL s d _).t+3;rw[z3t];omega) (by show (setL s d _).t+3≤_;rw[z3t];omega) _ (fun h0=>set_eq h0 hd _ _) (fun W hW=>ldo_R2 hW hf n2 e2 h1 d a b hd ha hb m x _ rfl)
  ·exact z6b hf hfe (pc4 (setL s d (opN n2 (s.f a) (s.f b))),l,es) 3 2 20 e2 h1 (by decide) (by show 0≤(setL s d _).t+20;rw[z3t];omega) (by show (setL s d _).t+20≤_;rw[z3t];omega) _ (fun h0=>set_eq h0 hd _ _) (fun W hW=>ldo_R3 hW hf n2 e2 h1 d a b hd ha hb m x _ rfl)
 | true=>
  obtain⟨e2,h1,e3,e4,e5,e6,e7,e8,e9⟩:=tab_I _ hq rfl
  simp only at e2 h1 e3 e4 e5 e6 e7 e8 e9
  subst e3
  subst e9
  exact z6b hf hfe (pc4 (setL s d (opN (preI n++postI n) (s.f a) (m%4294967296))),l,es) 1 3 1 e2 h1 (by decide) (by show 0≤(setL s d _).t+1;rw[z3t];omega) (by show (setL s d _).t+1≤_;rw[z3t];omega) _ (fun h0=>set_eq h0 hd _ _) (fun W hW=>ldo_I hW hf n e2 h1 d a b hd ha hb m x (preI n) (postI n) e4 e5 e6 e7 e8 _ rfl)
theorem even_form {y:Int} (h:U32 y):bits .andNot .u32 y 1=y/2*2:=by
 obtain⟨h0,h1⟩:=h
 obtain⟨Y,rfl⟩:=Int.eq_ofNat_of_zero_le h0
 have h1:Y<4294967296:=by omega
 have:=u32_andNot_nat Y 1 h1 (by decide)
 rw[show ((1:Nat):Int)=1 from rfl] at this
 rw[this]
 have e:Y &&& (4294967295-1)=Y/2*2:=by
  have h2:(4294967295-1:Nat)=4294967294:=by decide
  rw[h2]
  apply Nat.eq_of_testBit_eq
  intro i
  rw[Nat.testBit_and]
  cases i with
  | zero=>simp[Nat.testBit_zero]
  | succ i=>
   rw[show Y/2*2=(Y/2) <<< 1 by simp[Nat.shiftLeft_eq],Nat.testBit_shiftLeft]
   simp only[Nat.le_add_left,decide_true,Nat.add_sub_cancel,Bool.true_and,ge_iff_le]
   rw[show Y/2=Y >>> 1 by simp[Nat.shiftRight_eq_div_pow],Nat.testBit_shiftRight,Nat.add_comm 1 i]
   by_cases hi:i<31
   ·have:(4294967294:Nat).testBit (i+1)=true:=by
     have:∀ j,j<31→(4294967294:Nat).testBit (j+1)=true:=by decide
     exact this i hi
    rw[this,Bool.and_true]
   ·have:Y.testBit (i+1)=false:=Nat.testBit_lt_two_pow (Nat.lt_of_lt_of_le h1 (by
     have:2 ^ 32≤2 ^ (i+1):=Nat.pow_le_pow_right (by decide) (by omega)
     simpa using this))
    rw[this,Bool.false_and]
 omega
theorem ins_u (hf:∀ i,U32 (s.f i)) (ht:0≤s.t) (ht2:s.t≤1152921504606846000) (hd:d<32) (ha:a<32) (hb:b<32) (hfe:FetGo c ma mb mc gl B s l es late nm d a b m x) (hn:nm=[108,117,105]∨nm=[97,117,105,112,99]) :
  z8b c ma mb mc gl B s l es late (x0C (insC s l es ⟨nm,d,a,b,m⟩ x)):=by
 rcases hn with rfl | rfl
 ·rw[insC_lui]
  exact z6b hf hfe (pc4 (setL s d (m%4294967296*4096%4294967296)),l,es) 4 3 1 (by decide) rfl (by decide) (by show 0≤(setL s d _).t+1;rw[z3t];omega) (by show (setL s d _).t+1≤_;rw[z3t];omega) _ (fun h0=>set_eq h0 hd _ _) (fun W hW=>ldo_upper hW hf _ (by decide) rfl d a b hd ha hb m x (Or.inl rfl) _ rfl)
 ·rw[insC_auipc]
  exact z6b hf hfe (pc4 (setL s d ((m%4294967296*4096+s.f 32)%4294967296)),l,es) 4 3 1 (by decide) rfl (by decide) (by show 0≤(setL s d _).t+1;rw[z3t];omega) (by show (setL s d _).t+1≤_;rw[z3t];omega) _ (fun h0=>set_eq h0 hd _ _) (fun W hW=>ldo_upper hW hf _ (by decide) rfl d a b hd ha hb m x (Or.inr rfl) _ (by
   rw[if_neg (by decide)]
   congr 1
   omega))
theorem ins_j (hf:∀ i,U32 (s.f i)) (ht:0≤s.t) (ht2:s.t≤1152921504606846000) (hd:d<32) (ha:a<32) (hb:b<32) (hfe:FetGo c ma mb mc gl B s l es late nm d a b m x) (hn:nm=[106,97,108]∨nm=[106,97,108,114]) :
  z8b c ma mb mc gl B s l es late (x0C (insC s l es ⟨nm,d,a,b,m⟩ x)):=by
 have key:∀ to:Int,(s.f 0=0→(({ ({ (setL s d ((s.f 32+4)%4294967296)) with f:=set1 (setL s d ((s.f 32+4)%4294967296)).f 32 to }:CS) with t:=(setL s d ((s.f 32+4)%4294967296)).t+2 },l,es):St)=x0C (z2k (setX s d ((s.f 32+4)%4294967296)) to 2,l,es)):=fun to h0=>by
  show _=x0C (z2k { s with f:=set1 s.f d ((s.f 32+4)%4294967296) } to 2,l,es)
  rw[x0_next h0,z3t]
 rcases hn with rfl | rfl
 ·rw[insC_jal]
  exact z6b hf hfe ({ (setL s d ((s.f 32+4)%4294967296)) with f:=set1 (setL s d ((s.f 32+4)%4294967296)).f 32 ((s.f 32+m%4294967296)%4294967296) },l,es) 8 3 2 (by decide) rfl (by decide) (by show 0≤(setL s d _).t+2;rw[z3t];omega) (by show (setL s d _).t+2≤_;rw[z3t];omega) _ (key _) (fun W hW=>ldo_jump hW hf _ (by decide) rfl d a b hd ha hb m x (Or.inl rfl) ((s.f 32+m%4294967296)%4294967296) (by rw[if_pos rfl];omega) _ rfl)
 ·rw[insC_jalr]
  exact z6b hf hfe ({ (setL s d ((s.f 32+4)%4294967296)) with f:=set1 (setL s d ((s.f 32+4)%4294967296)).f 32 ((s.f a+m%4294967296)%4294967296/2*2) },l,es) 8 3 2 (by decide) rfl (by decide) (by show 0≤(setL s d _).t+2;rw[z3t];omega) (by show (setL s d _).t+2≤_;rw[z3t];omega) _ (key _) (fun W hW=>ldo_jump hW hf _ (by decide) rfl d a b hd ha hb m x (Or.inr rfl) ((s.f a+m%4294967296)%4294967296/2*2) (by
   rw[if_neg (by decide),show (s.f a+m%4294967296)%4294967296=(s.f a+m)%4294967296 by omega,even_form ⟨by omega,by omega⟩]) _ rfl)
theorem ins_b (hf:∀ i,U32 (s.f i)) (ht:0≤s.t) (ht2:s.t≤1152921504606846000) (hd:d<32) (ha:a<32) (hb:b<32) (hfe:FetGo c ma mb mc gl B s l es late nm d a b m x) (hn:nm=[98,101,113]∨nm=[98,110,101]∨nm=[98,108,116]∨nm=[98,103,101]∨nm=[98,108,116,117]∨nm=[98,103,101,117]) :
  z8b c ma mb mc gl B s l es late (x0C (insC s l es ⟨nm,d,a,b,m⟩ x)):=by
 have key:nm∈z1w→z1o nm=(7,2)→(7,2,2)∈z4h→(∃ q,insC s l es ⟨nm,d,a,b,m⟩ x=(z4a s q (m%4294967296),l,es)∧q=holdsV nm (s.f a) (s.f b))→z8b c ma mb mc gl B s l es late (x0C (insC s l es ⟨nm,d,a,b,m⟩ x)):=by
  rintro h1 h2 h3 ⟨q,e,rfl⟩
  rw[e]
  exact z6b hf hfe ({ s with f:=set1 s.f 32 ((s.f 32+(if holdsV nm (s.f a) (s.f b) then m%4294967296 else 4))%4294967296) },l,es) 7 2 2 h1 h2 h3 (by show 0≤s.t+2;omega) (by show s.t+2≤_;omega) _ (fun h0=>by rw[x0_branch h0];rfl) (fun W hW=>ldo_branch hW hf nm h1 h2 d a b hd ha hb m x hn _ rfl)
 rcases hn with rfl | rfl | rfl | rfl | rfl | rfl
 ·exact key (by decide) rfl (by decide) ⟨_,insC_beq _ _ _ _ _ _ _ _,rfl⟩
 ·exact key (by decide) rfl (by decide) ⟨_,insC_bne _ _ _ _ _ _ _ _,rfl⟩
 ·exact key (by decide) rfl (by decide) ⟨_,insC_blt _ _ _ _ _ _ _ _,slt_wrap⟩
 ·refine key (by decide) rfl (by decide) ⟨_,insC_bge _ _ _ _ _ _ _ _,?_⟩
  show (wSlt (s.f a) (s.f b)==0)=decide (wrap32 (s.f b)≤wrap32 (s.f a))
  unfold wSlt
  by_cases h:wrap32 (s.f a)<wrap32 (s.f b)
  ·rw[if_pos h];simp;omega
  ·rw[if_neg h];simp;omega
 ·exact key (by decide) rfl (by decide) ⟨_,insC_bltu _ _ _ _ _ _ _ _,rfl⟩
 ·exact key (by decide) rfl (by decide) ⟨_,insC_bgeu _ _ _ _ _ _ _ _,rfl⟩
theorem ins_m (hf:∀ i,U32 (s.f i)) (ht:0≤s.t) (ht2:s.t≤1152921504606846000) (hc2:s.cmp≤1152921504606846000) (hd:d<32) (ha:a<32) (hb:b<32) (hfe:FetGo c ma mb mc gl B s l es late nm d a b m x) (hn:nm=[109,114,101,116]∨nm=[119,102,105]∨nm=[102,101,110,99,101]∨nm=[101,99,97,108,108]∨nm=[101,98,114,101,97,107]) :
  z8b c ma mb mc gl B s l es late (x0C (insC s l es ⟨nm,d,a,b,m⟩ x)):=by
 rcases hn with rfl | rfl | rfl | rfl | rfl
 ·rw[insC_mret]
  exact z6b hf hfe ({ s with f:=retF s.f,u:=retU s.f },l,es) 10 1 4 (by decide) rfl (by decide) (by show 0≤s.t+4;omega) (by show s.t+4≤_;omega) _ (fun h0=>by rw[x0_ret h0];rfl) (fun W hW=>ldo_ret hW hf _ (by decide) rfl d a b hd ha hb m x)
 ·rw[insC_wfi]
  have hT:∃ T:CS,T=(if s.set then { s with t:=max s.t s.cmp } else s:CS):=⟨_,rfl⟩
  obtain⟨T,hT⟩:=hT
  have hTt:0≤T.t∧T.t≤1152921504606846000:=by
   rw[hT]
   split
   ·show 0≤max s.t s.cmp∧max s.t s.cmp≤_
    omega
   ·exact⟨ht,ht2⟩
  have hTw:T=(if s.set&&decide (s.t<s.cmp) then { s with t:=s.cmp } else s:CS):=by
   rw[hT]
   by_cases hs:s.set=true
   ·by_cases hlt:s.t<s.cmp
    ·rw[if_pos hs,if_pos (by simp[hs,hlt]),show max s.t s.cmp=s.cmp by omega]
    ·rw[if_pos hs,if_neg (by simp[hlt]),show max s.t s.cmp=s.t by omega]
   ·rw[if_neg hs,if_neg (by simp[hs])]
  have hTf:T.f=s.f:=by rw[hTw];split <;> rfl
  exact z6b hf hfe (pc4 T,l,es) 11 1 1 (by decide) rfl (by decide) (by show 0≤T.t+1;omega) (by show T.t+1≤_;omega) _ (fun h0=>by
   unfold wfiC
   rw[← hTw,← hTf,x0_plain (by rw[hTf];exact h0)]
   rfl) (fun W hW=>ldo_wait hW hf _ (by decide) rfl d a b hd ha hb m x T hT)
 ·rw[insC_fence]
  exact z6b hf hfe (pc4 s,l,es) 12 1 1 (by decide) rfl (by decide) (by show 0≤s.t+1;omega) (by show s.t+1≤_;omega) _ (fun h0=>by rw[x0_plain h0];rfl) (fun W hW=>ldo_fence hW hf _ (by decide) rfl d a b hd ha hb m x)
 ·rw[insC_ecall]
  exact ins_no hf ht (by omega) hfe (s,l,es) (if s.u then 8 else 11) 0 ⟨rfl,hf⟩ _ (fun h0=>by rw[z4u h0]) (fun W hW=>ldo_call hW hf _ (by decide) rfl d a b hd ha hb m x (Or.inl rfl) _ _ rfl rfl)
 ·rw[insC_ebreak]
  exact ins_no hf ht (by omega) hfe (s,l,es) 3 (s.f 32) ⟨rfl,hf⟩ _ (fun h0=>by rw[z4u h0]) (fun W hW=>ldo_call hW hf _ (by decide) rfl d a b hd ha hb m x (Or.inr rfl) _ _ rfl rfl)
end
section
variable {c ma mb mc gl B:Nat} {s:CS} {l:List Int} {es:List Ev} {late:List Int} {nm:List UInt8} {d a b:Nat} {m x:Int}
theorem sext_whole {y:Int} (h:U32 y):z2g y 32=y:=by
 obtain⟨h0,h1⟩:=h
 unfold z2g
 rw[if_neg (by omega),show (32-32:Int).toNat=0 from rfl,Int.pow_zero]
 unfold wrap32
 omega
theorem loadN_four (n:Nat) (l:List Int) (p:Int):z2r n l p 4 true=z2r n l p 4 false:=by
 unfold z2r
 split
 ·unfold z1l
  rw[if_pos rfl,if_neg (by decide)]
  exact sext_whole (z4n _ _ _)
 ·rfl
theorem sizeN_is (nm:List UInt8):z1s nm=1∨z1s nm=2∨z1s nm=4:=by
 unfold z1s
 split
 ·exact Or.inl rfl
 ·split
  ·exact Or.inr (Or.inl rfl)
  ·exact Or.inr (Or.inr rfl)
theorem ins_l (hf:∀ i,U32 (s.f i)) (ht:0≤s.t) (ht2:s.t≤1152921504606846000) (hd:d<32) (ha:a<32) (hb:b<32) (hfe:FetGo c ma mb mc gl B s l es late nm d a b m x) (hn:nm=[108,98]∨nm=[108,104]∨nm=[108,119]∨nm=[108,98,117]∨nm=[108,104,117]) :
  z8b c ma mb mc gl B s l es late (x0C (insC s l es ⟨nm,d,a,b,m⟩ x)):=by
 have key:nm∈z1w→z1o nm=(5,3)→(5,3,2)∈z4h→(∃ sg,insC s l es ⟨nm,d,a,b,m⟩ x=(z3m s l d ((s.f a+m%4294967296)%4294967296) (z1s nm) sg,l,es)∧z2r l.length l ((s.f a+m%4294967296)%4294967296) (z1s nm) sg=z2r l.length l ((s.f a+m%4294967296)%4294967296) (z1s nm) (signN nm))→z8b c ma mb mc gl B s l es late (x0C (insC s l es ⟨nm,d,a,b,m⟩ x)):=by
  rintro h1 h2 h3 ⟨sg,e,e2⟩
  rw[e,load_plain _ _ _ _ _ _ (sizeN_is nm),e2]
  obtain⟨p,hp⟩:∃ p,p=(s.f a+m%4294967296)%4294967296:=⟨_,rfl⟩
  rw[← hp]
  cases hk:z5j s l p (z1s nm) 0 with
  | some k=>
   exact ins_no hf ht (by omega) hfe ({ s with lat:=p },l,es) k p ⟨rfl,hf⟩ _ (fun h0=>(z4u (s:={ s with lat:=p }) h0 _ _ _ _).symm) (fun W hW=>ldo_load hW hf nm h1 h2 d a b hd ha hb m x hn p hp _ (by rw[hk];rfl) _ (by rw[hk]))
  | none=>
   exact z6b hf hfe (pc4 (setL { s with lat:=p } d (z2r l.length l p (z1s nm) (signN nm))),l,es) 5 3 2 h1 h2 h3 (by show 0≤(setL { s with lat:=p } d _).t+2;rw[z3t];show 0≤s.t+2;omega) (by show (setL { s with lat:=p } d _).t+2≤_;rw[z3t];show s.t+2≤_;omega) _ (fun h0=>set_eq (s:={ s with lat:=p }) h0 hd _ _) (fun W hW=>ldo_load hW hf nm h1 h2 d a b hd ha hb m x hn p hp _ (by rw[hk];rfl) _ (by rw[hk]))
 rcases hn with rfl | rfl | rfl | rfl | rfl
 ·exact key (by decide) rfl (by decide) ⟨true,insC_lb _ _ _ _ _ _ _ _,rfl⟩
 ·exact key (by decide) rfl (by decide) ⟨true,insC_lh _ _ _ _ _ _ _ _,rfl⟩
 ·exact key (by decide) rfl (by decide) ⟨true,insC_lw _ _ _ _ _ _ _ _,loadN_four _ _ _⟩
 ·exact key (by decide) rfl (by decide) ⟨false,insC_lbu _ _ _ _ _ _ _ _,rfl⟩
 ·exact key (by decide) rfl (by decide) ⟨false,insC_lhu _ _ _ _ _ _ _ _,rfl⟩
theorem stO_same (s:CS) (l:List Int) (es:List Ev) (p n x:Int):(stO s l es p n x).1.f=s.f∧(stO s l es p n x).1.t=s.t:=by
 unfold stO
 split
 ·unfold tellO
  repeat' split
  all_goals exact⟨rfl,rfl⟩
 ·exact⟨rfl,rfl⟩
theorem ins_s (hf:∀ i,U32 (s.f i)) (ht:0≤s.t) (ht2:s.t≤1152921504606846000) (hlen:es.length≤1000000) (hd:d<32) (ha:a<32) (hb:b<32) (hfe:FetGo c ma mb mc gl B s l es late nm d a b m x) (hn:nm=[115,98]∨nm=[115,104]∨nm=[115,119]) :
  z8b c ma mb mc gl B s l es late (x0C (insC s l es ⟨nm,d,a,b,m⟩ x)):=by
 have key:nm∈z1w→z1o nm=(6,3)→(6,3,2)∈z4h→insC s l es ⟨nm,d,a,b,m⟩ x=z4z s l es ((s.f a+m%4294967296)%4294967296) (z1s nm) (s.f b)→z8b c ma mb mc gl B s l es late (x0C (insC s l es ⟨nm,d,a,b,m⟩ x)):=by
  intro h1 h2 h3 e
  rw[e,store_plain]
  obtain⟨p,hp⟩:∃ p,p=(s.f a+m%4294967296)%4294967296:=⟨_,rfl⟩
  rw[← hp]
  cases hk:stR s l p (z1s nm) with
  | some k=>
   exact ins_no hf ht (by omega) hfe ({ s with lat:=p },l,es) k p ⟨rfl,hf⟩ _ (fun h0=>(z4u (s:={ s with lat:=p }) h0 _ _ _ _).symm) (fun W hW=>ldo_store hW hf nm h1 h2 d a b hd ha hb m x ht (by omega) hlen hn p hp _ (by rw[hk];rfl) _ (by rw[hk]))
  | none=>
   obtain⟨q1,q2⟩:=stO_same s l es p (z1s nm) (s.f b)
   exact z6b hf hfe (pc4 (stO s l es p (z1s nm) (s.f b)).1,(stO s l es p (z1s nm) (s.f b)).2) 6 3 2 h1 h2 h3 (by show 0≤(stO s l es p (z1s nm) (s.f b)).1.t+2;rw[q2];omega) (by show (stO s l es p (z1s nm) (s.f b)).1.t+2≤_;rw[q2];omega) _ (fun h0=>by
    show _=x0C (onS (stO s l es p (z1s nm) (s.f b)).1,(stO s l es p (z1s nm) (s.f b)).2.1,(stO s l es p (z1s nm) (s.f b)).2.2)
    unfold onS
    rw[x0_plain (by rw[q1];exact h0)]
    rfl) (fun W hW=>ldo_store hW hf nm h1 h2 d a b hd ha hb m x ht (by omega) hlen hn p hp _ (by rw[hk];rfl) _ (by rw[hk]))
 rcases hn with rfl | rfl | rfl
 ·exact key (by decide) rfl (by decide) (insC_sb _ _ _ _ _ _ _ _)
 ·exact key (by decide) rfl (by decide) (insC_sh _ _ _ _ _ _ _ _)
 ·exact key (by decide) rfl (by decide) (insC_sw _ _ _ _ _ _ _ _)
theorem cell_pos {n:Int} {k:Nat} (h:z2f n=some k):32<k:=by
 unfold z2f at h
 repeat' split at h
 all_goals first | (cases h;omega) | (cases h)
theorem writeF_low (f:Nat→Int) (n x:Int) (j:Nat) (hj:j≤32):z2o f n x j=f j:=by
 unfold z2o
 cases h:z2f n with
 | none=>rfl
 | some k=>
  have:=cell_pos h
  show set1 f k _ j=_
  unfold set1
  rw[if_neg (by omega)]
theorem ins_c (hf:∀ i,U32 (s.f i)) (ht:0≤s.t) (ht2:s.t≤1152921504606846000) (hm:0≤m∧m<4096) (hd:d<32) (ha:a<32) (hb:b<32) (hfe:FetGo c ma mb mc gl B s l es late nm d a b m x) (hn:nm=[99,115,114,114,119]∨nm=[99,115,114,114,115]∨nm=[99,115,114,114,99]) :
  z8b c ma mb mc gl B s l es late (x0C (insC s l es ⟨nm,d,a,b,m⟩ x)):=by
 have key:nm∈z1w→z1o nm=(9,2)→(9,2,1)∈z4h→(∃ k:Nat,insC s l es ⟨nm,d,a,b,m⟩ x=(csrS s k d a m (s.f a) x,l,es)∧(k=0↔nm=[99,115,114,114,119])∧∀ o y,csrX k o y=z4v nm o y)→z8b c ma mb mc gl B s l es late (x0C (insC s l es ⟨nm,d,a,b,m⟩ x)):=by
  rintro h1 h2 h3 ⟨k,e,e2,e3⟩
  rw[e]
  unfold csrS
  by_cases hr:z2b m≠0
  ·rw[if_pos hr]
   exact ins_no hf ht (by omega) hfe (s,l,es) 2 x ⟨rfl,hf⟩ _ (fun h0=>(z4u h0 _ _ _ _).symm) (fun W hW=>ldo_statusBad hW hf nm h1 h2 d a b hd ha hb m x hm hr)
  ·rw[if_neg hr]
   have hr':z2b m=0:=Classical.not_not.mp hr
   by_cases hw:k=0∨(a:Int)≠0
   ·have hwr:(true=true)↔(nm=[99,115,114,114,119]∨a≠0):=by
     refine⟨fun _=>?_,fun _=>rfl⟩
     rcases hw with q | q
     ·exact Or.inl (e2.1 q)
     ·exact Or.inr (by omega)
    rw[if_pos hw]
    by_cases hE:z2y m≠0
    ·rw[if_pos hE]
     exact ins_no hf ht (by omega) hfe (s,l,es) 2 x ⟨rfl,hf⟩ _ (fun h0=>(z4u h0 _ _ _ _).symm) (fun W hW=>ldo_status hW hf nm h1 h2 d a b hd ha hb m x hn hm hr' true hwr _ rfl (by show (if true=true then _ else _:Nat→Int) 0=0;rw[if_pos rfl,writeF_low _ _ _ _ (by decide)];exact hW.x0) true (by simp[hE]) _ rfl _ rfl)
    ·rw[if_neg hE]
     obtain⟨F,hF⟩:∃ F,F=z2o s.f m (z4v nm (z4e s.f m s.t (dueV s)) (s.f a)):=⟨_,rfl⟩
     have hFo:z2o s.f m (csrX k (oldV s m) (s.f a))=F:=by rw[hF,e3];rfl
     rw[hFo]
     exact z6b hf hfe (pc4 (setL { s with f:=F } d (z4e s.f m s.t (dueV s))),l,es) 9 2 1 h1 h2 h3 (by show 0≤(setL { s with f:=F } d _).t+1;rw[z3t];show 0≤s.t+1;omega) (by show (setL { s with f:=F } d _).t+1≤_;rw[z3t];show s.t+1≤_;omega) _ (fun h0=>set_eq (s:={ s with f:=F }) (by show F 0=0;rw[hF,writeF_low _ _ _ _ (by decide)];exact h0) hd _ _) (fun W hW=>ldo_status hW hf nm h1 h2 d a b hd ha hb m x hn hm hr' true hwr F (by rw[if_pos rfl];exact hF) (by rw[hF,writeF_low _ _ _ _ (by decide)];exact hW.x0) false (by simpa using hE) _ rfl _ rfl)
   ·have hwr:(false=true)↔(nm=[99,115,114,114,119]∨a≠0):=by
     refine⟨fun h=>(by cases h),fun q=>absurd ?_ hw⟩
     rcases q with q | q
     ·exact Or.inl (e2.2 q)
     ·exact Or.inr (by omega)
    rw[if_neg hw]
    exact z6b hf hfe (pc4 (setL s d (z4e s.f m s.t (dueV s))),l,es) 9 2 1 h1 h2 h3 (by show 0≤(setL s d _).t+1;rw[z3t];omega) (by show (setL s d _).t+1≤_;rw[z3t];omega) _ (fun h0=>set_eq h0 hd _ _) (fun W hW=>ldo_status hW hf nm h1 h2 d a b hd ha hb m x hn hm hr' false hwr s.f rfl hW.x0 false rfl _ rfl _ rfl)
 rcases hn with rfl | rfl | rfl
 ·exact key (by decide) rfl (by decide) ⟨0,insC_csrrw _ _ _ _ _ _ _ _,by decide,fun _ _=>rfl⟩
 ·exact key (by decide) rfl (by decide) ⟨1,insC_csrrs _ _ _ _ _ _ _ _,by decide,fun _ _=>rfl⟩
 ·exact key (by decide) rfl (by decide) ⟨2,insC_csrrc _ _ _ _ _ _ _ _,by decide,fun _ _=>rfl⟩
theorem ins_all (hF:Fine s es) (hg:getV x=some ⟨nm,d,a,b,m⟩) (hd:d<32) (ha:a<32) (hb:b<32) (hm:(z0q nm).k=67→0≤m∧m<4096) (hfe:FetGo c ma mb mc gl B s l es late nm d a b m x) :
  z8b c ma mb mc gl B s l es late (x0C (insC s l es ⟨nm,d,a,b,m⟩ x)):=by
 have ht:=hF.t0
 have ht2:s.t≤1152921504606846000:=by have:=hF.t1;omega
 have hc2:s.cmp≤1152921504606846000:=by have:=hF.c1;omega
 rcases forms_split _ (z8s hg) with ho | ho
 ·exact ins_o hF.f ht ht2 hd ha hb hfe ho
 ·rcases others_is ho with e | e | e | e | e | e | e | e | e | e | e | e | e | e | e | e | e | e | e | e | e | e | e | e | e | e
  ·exact ins_u hF.f ht ht2 hd ha hb hfe (Or.inl e)
  ·exact ins_u hF.f ht ht2 hd ha hb hfe (Or.inr e)
  ·exact ins_j hF.f ht ht2 hd ha hb hfe (Or.inl e)
  ·exact ins_j hF.f ht ht2 hd ha hb hfe (Or.inr e)
  ·exact ins_b hF.f ht ht2 hd ha hb hfe (Or.inl e)
  ·exact ins_b hF.f ht ht2 hd ha hb hfe (Or.inr (Or.inl e))
  ·exact ins_b hF.f ht ht2 hd ha hb hfe (Or.inr (Or.inr (Or.inl e)))
  ·exact ins_b hF.f ht ht2 hd ha hb hfe (Or.inr (Or.inr (Or.inr (Or.inl e))))
  ·exact ins_b hF.f ht ht2 hd ha hb hfe (Or.inr (Or.inr (Or.inr (Or.inr (Or.inl e)))))
  ·exact ins_b hF.f ht ht2 hd ha hb hfe (Or.inr (Or.inr (Or.inr (Or.inr (Or.inr e)))))
  ·exact ins_l hF.f ht ht2 hd ha hb hfe (Or.inl e)
  ·exact ins_l hF.f ht ht2 hd ha hb hfe (Or.inr (Or.inl e))
  ·exact ins_l hF.f ht ht2 hd ha hb hfe (Or.inr (Or.inr (Or.inl e)))
  ·exact ins_l hF.f ht ht2 hd ha hb hfe (Or.inr (Or.inr (Or.inr (Or.inl e))))
  ·exact ins_l hF.f ht ht2 hd ha hb hfe (Or.inr (Or.inr (Or.inr (Or.inr e))))
  ·exact ins_s hF.f ht ht2 (by have:=hF.en;omega) hd ha hb hfe (Or.inl e)
  ·exact ins_s hF.f ht ht2 (by have:=hF.en;omega) hd ha hb hfe (Or.inr (Or.inl e))
  ·exact ins_s hF.f ht ht2 (by have:=hF.en;omega) hd ha hb hfe (Or.inr (Or.inr e))
  ·exact ins_c hF.f ht ht2 (hm (by rw[show nm=_ from e];rfl)) hd ha hb hfe (Or.inl e)
  ·exact ins_c hF.f ht ht2 (hm (by rw[show nm=_ from e];rfl)) hd ha hb hfe (Or.inr (Or.inl e))
  ·exact ins_c hF.f ht ht2 (hm (by rw[show nm=_ from e];rfl)) hd ha hb hfe (Or.inr (Or.inr e))
  ·exact ins_m hF.f ht ht2 hc2 hd ha hb hfe (Or.inl e)
  ·exact ins_m hF.f ht ht2 hc2 hd ha hb hfe (Or.inr (Or.inl e))
  ·exact ins_m hF.f ht ht2 hc2 hd ha hb hfe (Or.inr (Or.inr (Or.inl e)))
  ·exact ins_m hF.f ht ht2 hc2 hd ha hb hfe (Or.inr (Or.inr (Or.inr (Or.inl e))))
  ·exact ins_m hF.f ht ht2 hc2 hd ha hb hfe (Or.inr (Or.inr (Or.inr (Or.inr e))))
theorem barred_forms:∀ q∈z3w,((z0q q.1).k==67||q.1==[109,114,101,116]||q.1==[119,102,105])=kernelB (z1o q.1).1:=by decide +kernel
theorem linstruct (hF:Fine s es):z8b c ma mb mc gl B s l es late (x0C (doC s l es)):=by
 have ht:=hF.t0
 have ht2:s.t≤1152921504606846976:=by have:=hF.t1;omega
 unfold doC
 by_cases h1:s.f 32%4≠0
 ·rw[if_pos h1]
  have hk:z5j s l (s.f 32) 4 2=some 0:=by unfold z5j;rw[if_pos h1];rfl
  exact ins_eq (fun h0=>(z4u h0 _ _ _ _).symm) ⟨fun W hW=>z5t hW hF.f 0 (s.f 32) ht ht2 (fun W hW=>lfetch_take hW hF.f 0 hk)⟩
 rw[if_neg h1]
 by_cases h2:z5m s (s.f 32) 4 2=false
 ·rw[if_pos h2]
  have hk:z5j s l (s.f 32) 4 2=some 1:=by unfold z5j;rw[if_neg h1,if_pos h2];rfl
  exact ins_eq (fun h0=>(z4u h0 _ _ _ _).symm) ⟨fun W hW=>z5t hW hF.f 1 (s.f 32) ht ht2 (fun W hW=>lfetch_take hW hF.f 1 hk)⟩
 rw[if_neg h2]
 by_cases h3:askV l.length (s.f 32) 4≠0
 ·rw[if_pos h3]
  have hk:z5j s l (s.f 32) 4 2=some 1:=by unfold z5j;rw[if_neg h1,if_neg h2,if_pos h3];rfl
  exact ins_eq (fun h0=>(z4u h0 _ _ _ _).symm) ⟨fun W hW=>z5t hW hF.f 1 (s.f 32) ht ht2 (fun W hW=>lfetch_take hW hF.f 1 hk)⟩
 rw[if_neg h3]
 have hk:z5j s l (s.f 32) 4 2=none:=by unfold z5j;rw[if_neg h1,if_neg h2,if_neg h3]
 have hx:z2r l.length l (s.f 32) 4 false=z1l l (s.f 32) 4 false:=by unfold z2r;rw[if_pos (Classical.not_not.mp h3)]
 obtain⟨x,ex⟩:∃ x,x=z1l l (s.f 32) 4 false:=⟨_,rfl⟩
 have hxu:U32 x:=by rw[ex];exact z2l l _ _
 rw[← ex] at hx ⊢
 cases hg:getV x with
 | none=>exact ins_eq (fun h0=>(z4u h0 _ _ _ _).symm) ⟨fun W hW=>z5t hW hF.f 2 x ht ht2 (fun W hW=>lfetch_none hW hF.f x hk hx hg)⟩
 | some i=>
  have hq:=get_fields hxu hg
  obtain⟨nm,d,a,b,m⟩:=i
  simp only at hq
  obtain⟨⟨d0,d1⟩,⟨a0,a1⟩,⟨b0,b1⟩,hm⟩:=hq
  obtain⟨d,rfl⟩:=Int.eq_ofNat_of_zero_le d0
  obtain⟨a,rfl⟩:=Int.eq_ofNat_of_zero_le a0
  obtain⟨b,rfl⟩:=Int.eq_ofNat_of_zero_le b0
  have hbk:z7b ⟨nm,d,a,b,m⟩=kernelB (z1o nm).1:=barred_forms _ (z8s hg)
  show z8b c ma mb mc gl B s l es late (x0C (if (s.u&&z7b ⟨nm,d,a,b,m⟩)=true then _ else _))
  rw[hbk]
  cases hu:s.u with
  | false=>
   rw[if_neg (by simp)]
   exact ins_all hF hg (by omega) (by omega) (by omega) hm ⟨fun W hW=>lfetch_ok hW hF.f x hk hx nm d a b m hg hu⟩
  | true=>
   cases hb:kernelB (z1o nm).1 with
   | true=>
    rw[if_pos (by decide)]
    exact ins_eq (fun h0=>(z4u h0 _ _ _ _).symm) ⟨fun W hW=>z5t hW hF.f 2 x ht ht2 (fun W hW=>lfetch_kernel hW hF.f x hk hx nm d a b m hg hu hb)⟩
   | false=>
    rw[if_neg (by decide)]
    exact ins_all hF hg (by omega) (by omega) (by omega) hm ⟨fun W hW=>lfetch_user hW hF.f x hk hx nm d a b m hg hu hb⟩
end
theorem evrow_len (es:List Ev):(z5d es).length=es.length*3:=by
 induction es with
 | nil=>rfl
 | cons e es ih=>
  have he:z5d (e::es)=z5p e++z5d es:=rfl
  rw[he,List.length_append,ih,List.length_cons]
  show 3+_=_
  omega
theorem eqSlE (a:Option Addr) (n k:Nat) (w:World):(binOp .eql 47 (.slice a n k) (.slice none 0 0)).run Tryz.prog w=.ok (.bool a.isNone) w:=by cases a <;> kernel_rfl
theorem eqSlI (a:Option Addr) (n k:Nat) (w:World):(binOp .eql 24 (.slice a n k) (.slice none 0 0)).run Tryz.prog w=.ok (.bool a.isNone) w:=by cases a <;> kernel_rfl
theorem cCloneE {w:World} {B:Nat} {v:Value} {es:List Ev} (h:w.ownsRow B 63 3 v es.length (z5d es)) (hm:es.length≤1000000) :
  Calls Tryz.prog 60 #[v] w fun e w'=>∃ v',e=.returned v'∧Evs w' v' es∧Below w.heap.size w w':=by
 obtain⟨i0,hi0,hz0,hz1,hz2⟩:=info_parts infoE
 have HO:Hid _:=h
 obtain⟨_,⟨e1,e2⟩ | ⟨g,cap,cur,e1,e2,e3,e4,e5,e6,e7⟩⟩:=h
 ·subst e1
  have hq:=eqSlE none 0 0
  have hes:es=[]:=List.eq_nil_of_length_eq_zero e2
  clear HO
  go_enter Tryz.func60,Tryz.ntmps60
  go_wp2
  go_ret
  exact⟨_,rfl,⟨none,0,0,0,by rw[hes];rfl,fun q=>by rw[hes] at q;cases q⟩,Below.refl _ _⟩
 ·subst e1
  have hq:=eqSlE (some ⟨g,0,none⟩) es.length cap
  have hbs:∀ w,(Instr.buildSlice 47 0 #[]).run Tryz.prog w=.ok (.slice (some ⟨w.heap.size,0,none⟩) 0 0) (w.alloc (.cells #[] 63)):=fun w=>by kernel_rfl
  have O1:Hid ((w.alloc (.cells #[] 63)).ownsRow w.heap.size 63 3 (.slice (some ⟨w.heap.size,0,none⟩) 0 0) 0 []):=⟨rfl,Or.inr ⟨w.heap.size,0,#[],rfl,Nat.le_refl _,z0g _ _,Nat.le_refl _,Nat.zero_le _,rfl,rfl⟩⟩
  by_cases hn:es.length=0
  ·have hes:es=[]:=List.eq_nil_of_length_eq_zero hn
   subst hes
   have hq:=eqSlE (some ⟨g,0,none⟩) 0 cap
   have hap:∀ (W:World) (ty:TypeId) (b:Nat),(Builtin.append_ #[47,47] ty #[.slice (some ⟨b,0,none⟩) 0 0,.slice (some ⟨g,0,none⟩) 0 cap]).run Tryz.prog W=.ok (.slice (some ⟨b,0,none⟩) 0 0) W:=fun W ty b=>by
    simp[Builtin.append_,run_underlying Tryz.underlying47,sizeOf,typeInfo,hi0,Builtin.lenOf,Builtin.firstCells,storeCells,loadCells,loadCellsFrom]
   clear HO
   go_enter Tryz.func60,Tryz.ntmps60
   go_wp2
   go_ret
   exact⟨_,rfl,⟨_,_,0,0,rfl,fun q=>absurd q (Nat.lt_irrefl 0)⟩,(Below.refl _ _).alloc (Nat.le_refl _) _⟩
  ·have HN:Hid (∀ j u,(z5d es)[j]?=some u→(w.alloc (.cells #[] 63)).cell? ((⟨g,0,none⟩:Addr).add j)=some u):=fun j u hju=>by
    have hg:g<w.heap.size:=(Array.getElem?_eq_some_iff.1 e3).1
    rw[Addr.add_mid,((Below.refl w.heap.size w).alloc (Nat.le_refl _) _).cell (p:=⟨g,0+j,none⟩) hg,Nat.zero_add]
    refine (z0a e3).1 _ _ ?_
    rw[← e7,List.getElem?_take] at hju
    split at hju
    ·rw[← Array.getElem?_toList];exact hju
    ·cases hju
   have H1:Hid (∀ u∈z5d es,u.oneCell'=true):=fun u hu=>by
    unfold z5d at hu
    obtain⟨x,_,hx⟩:=List.mem_flatMap.1 hu
    simp only[z5p,List.mem_cons,List.not_mem_nil,or_false] at hx
    rcases hx with rfl | rfl | rfl <;> rfl
   have HLen:Hid ((z5d es).length=es.length*3):=evrow_len es
   have h0:0<es.length:=Nat.pos_of_ne_zero hn
   generalize hln:es.length=n at *
   have HLN:Hid _:=hln
   clear HO e3 e4 e5 e6 e7 hln hn
   go_enter Tryz.func60,Tryz.ntmps60
   go_wp2_with (first | (refine wpList_append_lies _ rfl (.tmp 5) (.tmp 6) 47 rfl w.heap.size 63 i0 _ 3 24 Tryz.underlying47 hi0 hz0 hz1 hz2 rfl (by omega) _ 0 [] rfl O1.out ⟨g,0,none⟩ n cap (z5d es) rfl HLen.out HN.out H1.out h0 (by unfold maxLen;omega) (by omega) (by simp) _ rfl ?_;intro gg cp w1 hown hgrow hat hlt))
   go_ret
   have hb1:Below w.heap.size w w1:=z4b ((Below.refl _ _).alloc (Nat.le_refl _) _) hgrow (by simp) (Nat.le_refl _)
   refine⟨_,rfl,?_,hb1⟩
   refine evs_of (B:=w.heap.size) ?_
   rw[HLN.out]
   simpa using hown
theorem infoI:(Tryz.prog.info? 3).map (fun i=>(i.zero,i.size,i.bytes))=some (some (.int .i64 0),1,8):=by kernel_rfl
theorem cCloneI {w:World} {v:Value} {late:List Int} (h:z9l w v late) (hm:late.length≤1000) :
  Calls Tryz.prog 23 #[v] w fun e w'=>∃ v' gl,e=.returned v'∧LateL w' gl v' late 0∧(0<late.length→w.heap.size≤gl)∧v'.oneCell'=true∧Below w.heap.size w w':=by
 obtain⟨i0,hi0,hz0,hz1,hz2⟩:=info_parts infoI
 obtain⟨sa,cap,bl,off,rfl,hl⟩:=h.is
 have hbs:∀ w,(Instr.buildSlice 24 0 #[]).run Tryz.prog w=.ok (.slice (some ⟨w.heap.size,0,none⟩) 0 0) (w.alloc (.cells #[] 3)):=fun w=>by kernel_rfl
 by_cases hn:late.length=0
 ·have hes:late=[]:=List.eq_nil_of_length_eq_zero hn
  subst hes
  cases sa with
  | none=>
   have hq:=eqSlI none 0 cap
   clear hl h
   go_enter Tryz.func23,Tryz.ntmps23
   go_wp2
   go_ret
   exact⟨_,0,rfl,⟨none,0,0,rfl,Nat.le_refl _,fun q=>absurd q (Nat.lt_irrefl 0)⟩,fun q=>absurd q (Nat.lt_irrefl 0),rfl,Below.refl _ _⟩
  | some A=>
   have hq:=eqSlI (some A) 0 cap
   have hap:∀ (W:World) (ty:TypeId) (b:Nat),(Builtin.append_ #[24,24] ty #[.slice (some ⟨b,0,none⟩) 0 0,.slice (some A) 0 cap]).run Tryz.prog W=.ok (.slice (some ⟨b,0,none⟩) 0 0) W:=fun W ty b=>by
    simp[Builtin.append_,run_underlying Tryz.underlying24,sizeOf,typeInfo,hi0,Builtin.lenOf,Builtin.firstCells,storeCells,loadCells,loadCellsFrom]
   clear hl h
   go_enter Tryz.func23,Tryz.ntmps23
   go_wp2
   go_ret
   exact⟨_,0,rfl,⟨_,0,0,rfl,Nat.le_refl _,fun q=>absurd q (Nat.lt_irrefl 0)⟩,fun q=>absurd q (Nat.lt_irrefl 0),rfl,(Below.refl _ _).alloc (Nat.le_refl _) _⟩
 ·have h0:0<late.length:=Nat.pos_of_ne_zero hn
  obtain⟨rfl,hb,hc⟩:=hl h0
  have hq:=eqSlI (some ⟨bl,off,none⟩) late.length cap
  have O1:Hid ((w.alloc (.cells #[] 3)).ownsRow w.heap.size 3 1 (.slice (some ⟨w.heap.size,0,none⟩) 0 0) 0 []):=⟨rfl,Or.inr ⟨w.heap.size,0,#[],rfl,Nat.le_refl _,z0g _ _,Nat.le_refl _,Nat.zero_le _,rfl,rfl⟩⟩
  have HN:Hid (∀ j u,(late.map (Value.int .i64))[j]?=some u→(w.alloc (.cells #[] 3)).cell? ((⟨bl,off,none⟩:Addr).add j)=some u):=fun j u hju=>by
   have hj:j<late.length:=by
    have:=(List.getElem?_eq_some_iff.1 hju).1
    rw[List.length_map] at this;exact this
   rw[Addr.add_mid,((Below.refl w.heap.size w).alloc (Nat.le_refl _) _).cell (p:=⟨bl,off+j,none⟩) hb,hc j hj,← hju,List.getElem?_map,List.getD_eq_getElem?_getD,List.getElem?_eq_getElem hj]
   rfl
  have H1:Hid (∀ u∈late.map (Value.int .i64),u.oneCell'=true):=fun u hu=>by obtain⟨x,_,rfl⟩:=List.mem_map.1 hu;rfl
  have HLen:Hid ((late.map (Value.int .i64)).length=late.length*1):=by show _=_;rw[List.length_map,Nat.mul_one]
  obtain⟨n,hln⟩:∃ n,n=late.length:=⟨_,rfl⟩
  rw[← hln] at h0 hm hq HLen ⊢
  have HLN:Hid _:=hln
  clear hc hb h hl hn hln
  go_enter Tryz.func23,Tryz.ntmps23
  go_wp2_with (first | (refine wpList_append_lies _ rfl (.tmp 5) (.tmp 6) 24 rfl w.heap.size 3 i0 _ 1 8 Tryz.underlying24 hi0 hz0 hz1 hz2 rfl (by omega) _ 0 [] rfl O1.out ⟨bl,off,none⟩ n cap (late.map (Value.int .i64)) rfl HLen.out HN.out H1.out h0 (by unfold maxLen;omega) (by omega) (by simp) _ rfl ?_;intro gg cp w1 hown hgrow hat hlt))
  go_ret
  have hb1:Below w.heap.size w w1:=z4b ((Below.refl _ _).alloc (Nat.le_refl _) _) hgrow (by simp) (Nat.le_refl _)
  obtain⟨_,⟨e1,_⟩ | ⟨g',cp',cur,e1,e2,e3,e4,e5,e6,e7⟩⟩:=hown
  ·cases e1
  simp only[Value.slice.injEq,Option.some.injEq,Addr.mk.injEq,and_true] at e1
  obtain⟨rfl,_,rfl⟩:=e1
  refine⟨_,gg,rfl,⟨some ⟨gg,0,none⟩,cp,0,?_,?_,fun _=>⟨rfl,(z0a e3).2.2,fun i hi=>?_⟩⟩,fun _=>e2,rfl,hb1⟩
  ·rw[Nat.sub_zero,← HLN.out];rfl
  ·rw[Nat.sub_zero,← HLN.out];omega
  ·rw[Nat.zero_add] at hi
   rw[Nat.zero_add]
   refine (z0a e3).1 i _ ?_
   have h1:(cur.toList.take ((0+n)*1))[i]?=some (.int .i64 (late.getD i 0)):=by
    rw[e7,List.nil_append,List.getElem?_map,List.getD_eq_getElem?_getD,List.getElem?_eq_getElem hi]
    rfl
   rw[List.getElem?_take,if_pos (by rw[HLN.out];omega)] at h1
   rw[← Array.getElem?_toList]
   exact h1
theorem lEvents {w:World} {c ma mb mc gl B:Nat} {s:CS} {l:List Int} {es:List Ev} {late:List Int} (h:z0v w c ma mb mc gl B s l es late) (hm:es.length≤1000000) :
  Calls Tryz.prog 33 #[.pointer (some ⟨c,0,none⟩)] w fun e w'=>∃ v,e=.returned v∧Evs w' v es∧Below w.heap.size w w':=by
 have c65:=h.core.cell 65 (by decide)
 have e65:z1a s 65=s.ev:=rfl
 rw[e65] at c65
 have CE:Hid _:=cCloneE h.ev hm
 clear h e65 hm
 generalize s.ev=ev at *
 go_enter Tryz.func33,Tryz.ntmps33
 go_wp2_with fail
 refine Calls.mono CE.out ?_
 rintro e w1 ⟨v,rfl,q1,q2⟩
 have Q1:Hid _:=q1
 have Q2:Hid _:=q2
 clear q1 q2 CE
 go_wp2
 go_ret
 exact⟨v,rfl,Q1.out,Q2.out⟩
theorem builtL (m la:Value) (hm:m.oneCell'=true) (hl:la.oneCell'=true):Tryz.prog.built 65 [(0,m),(5,la)]=some (z3q 70 (z1a (newC m la))):=by
 cases m <;> cases la <;> simp only[Value.oneCell'] at hm hl <;> first | contradiction | kernel_rfl
theorem boxL (g:Nat→Value) (w:World):(Instr.box 65 (.agg (z3q 70 g))).run Tryz.prog w=.ok (.pointer (some ⟨w.heap.size,0,none⟩)) (w.alloc (.cells (z3q 70 g) 65)):=by kernel_rfl
theorem wpList_builtL {ops:Array Oper} {rest:List Oper} {o:Oper} {a:Act} {w:World} {Q:Exit→Act→World→Prop} (hg:o.guard=none) (x y:Operand) (ho:o.op=.build 65 #[(0,x),(5,y)]) (m la:Value) (hx:a.eval x=m) (hy:a.eval y=la) (hm:m.oneCell'=true) (hl:la.oneCell'=true)
  (h:wpList Tryz.prog ops Q rest (a.put o.dst (.agg (z3q 70 (z1a (newC m la))))) w):wpList Tryz.prog ops Q (o::rest) a w:=by
 have e:(#[(0,x),(5,y)].map fun (i,x)=>(i,a.eval x)).toList=[(0,m),(5,la)]:=by simp[hx,hy]
 refine wpList_build hg _ _ ho ?_ ?_
 ·rw[e,builtL m la hm hl];rfl
 ·rw[e,builtL m la hm hl];exact h
theorem lNew (b off cp:Nat) (l:List Int) (v:Value) (late:List Int) (w:World) (h0:0<l.length) (hn:l.length≤1000) (hu:∀ i,U32 (z0p l i)) (hc:∀ i,i<l.length→w.cell? ⟨b,off+i,none⟩=some (.int .u32 (z0p l i))) (hl:z9l w v late) (hm:late.length≤1000) :
  Calls Tryz.prog 8 #[.slice (some ⟨b,off,none⟩) l.length cp,v] w fun e w'=>∃ c ma mb mc gl m la,e=.returned (.tuple #[.pointer (some ⟨c,0,none⟩),.int .i64 0])∧z0v w' c ma mb mc gl w'.heap.size (newC m la) l [] late∧Below w.heap.size w w'∧w.heap.size≤c∧w.heap.size≤ma∧w.heap.size≤mb∧(0<late.length→w.heap.size≤gl):=by
 have HL:Hid _:=hl
 have CM:Hid _:=memNew b off l.length cp l w rfl h0 (by omega) (fun x hx=>by obtain⟨i,hi,rfl⟩:=List.mem_iff_getElem.1 hx;have:=hu i;unfold z0p at this;rw[List.getD_eq_getElem?_getD,List.getElem?_eq_getElem hi] at this;exact this) hc
 have HM:Hid _:=hm
 clear hu hc hl h0 hn hm
 go_enter Tryz.func8,Tryz.ntmps8
 go_wp2_with fail
 refine Calls.mono CM.out ?_
 rintro e w1 ⟨rfl,q1,q2⟩
 have L1:Hid (Lies w1 (w.heap.size+1) w.heap.size (4*l.length) l):=q1
 have B1:Hid _:=q2
 have V1:Hid (z9l w1 v late):=⟨by
  obtain⟨sa,cap,bl,of,e1,e2⟩:=HL.out.is
  exact⟨sa,cap,bl,of,e1,fun h=>by
   obtain⟨r1,r2,r3⟩:=e2 h
   exact⟨r1,Nat.lt_of_lt_of_le r2 q2.size,fun i hi=>by rw[q2.cell (p:=⟨bl,of+i,none⟩) r2];exact r3 i hi⟩⟩⟩
 clear q1 q2 CM HL
 go_wp2_with fail
 refine Calls.mono (cCloneI V1.out HM.out) ?_
 rintro e w2 ⟨la,gl,rfl,r1,r2,r3,r4⟩
 have R1:Hid _:=r1
 have R2:Hid _:=r2
 have B2:Hid _:=r4
 have hbox:=boxL
 clear r1 r2 r4 V1
 go_wp2_with (first | (refine wpList_builtL rfl (.tmp 16) (.tmp 18) rfl _ _ rfl rfl rfl r3 ?_))
 go_ret2
 have t1:=L1.out.there
 have s1:w.heap.size≤w1.heap.size:=B1.out.size
 have s2:w1.heap.size≤w2.heap.size:=B2.out.size
 have bA:Below w2.heap.size w2 (w2.alloc (.cells (z3q 70 (z1a (newC (.pointer (some ⟨w.heap.size+1,0,none⟩)) la))) 65)):=(Below.refl _ _).alloc (Nat.le_refl _) _
 have L2:Lies w2 (w.heap.size+1) w.heap.size (4*l.length) l:=L1.out.keep (B2.out.block _ t1.1) (B2.out.block _ t1.2)
 refine⟨w2.heap.size,w.heap.size+1,w.heap.size,4*l.length,gl,_,la,rfl,⟨⟨z0g _ _⟩,rfl,L2.keep (bA.block _ L2.there.1) (bA.block _ L2.there.2),R1.out.chg (Chg.of (O:=fun _=>False) bA) (fun _ e=>e),⟨rfl,Or.inl ⟨rfl,rfl⟩⟩,by omega,by omega,fun hq=>?_,by rw[World.size_alloc];omega,by rw[World.size_alloc];omega,by rw[World.size_alloc];omega,Nat.le_refl _,rfl⟩,z0e (z0e B1.out B2.out) bA,by omega,by omega,Nat.le_refl _,fun hq=>Nat.le_trans s1 (R2.out hq)⟩
 obtain⟨sa,cap,of,e1,ec,e2⟩:=R1.out.is
 have g1:=(e2 (by simpa using hq)).2.1
 have g2:=R2.out hq
 exact⟨by omega,by omega,by rw[World.size_alloc];omega,by rw[World.size_alloc];omega⟩
section
def z5r (m la ev:Value) (s:CS):CS:={ s with m:=m,la:=la,ev:=ev }
def withO (m la ev:Value) (o:St):St:=(z5r m la ev o.1,o.2)
section
variable {m la ev:Value} {s:CS}
theorem ite_C {c:Prop} [Decidable c] {a b a' b':CS} (h1:a'=z5r m la ev a) (h2:b'=z5r m la ev b):(if c then a' else b')=z5r m la ev (if c then a else b):=by
 by_cases h:c
 ·rw[if_pos h,if_pos h];exact h1
 ·rw[if_neg h,if_neg h];exact h2
theorem z3p {c:Prop} [Decidable c] {a b a' b':St} (h1:a'=withO m la ev a) (h2:b'=withO m la ev b):(if c then a' else b')=withO m la ev (if c then a else b):=by
 by_cases h:c
 ·rw[if_pos h,if_pos h];exact h1
 ·rw[if_neg h,if_neg h];exact h2
theorem pairO {a a':CS} {l:List Int} {es:List Ev} (h:a'=z5r m la ev a):((a',l,es):St)=withO m la ev (a,l,es):=by rw[h];rfl
theorem z7m (l:List Int) (rd:Nat) (p n:Int) (sg:Bool):z3m (z5r m la ev s) l rd p n sg=z5r m la ev (z3m s l rd p n sg):=by
 unfold z3m
 exact ite_C rfl (ite_C rfl rfl)
theorem z9n (l:List Int) (es:List Ev) (p n x:Int):z4z (z5r m la ev s) l es p n x=withO m la ev (z4z s l es p n x):=by
 unfold z4z
 exact z3p rfl (z3p rfl (z3p rfl (z3p rfl (z3p rfl (z3p rfl (z3p rfl (z3p rfl rfl)))))))
theorem csrS_with (k rd:Nat) (r1 n a wd:Int):csrS (z5r m la ev s) k rd r1 n a wd=z5r m la ev (csrS s k rd r1 n a wd):=by
 unfold csrS
 exact ite_C rfl (ite_C (ite_C rfl rfl) rfl)
theorem wfiC_with:wfiC (z5r m la ev s)=z5r m la ev (wfiC s):=by
 unfold wfiC
 have:(if (z5r m la ev s).set&&decide ((z5r m la ev s).t<(z5r m la ev s).cmp) then { (z5r m la ev s) with t:=(z5r m la ev s).cmp } else z5r m la ev s:CS)=z5r m la ev (if s.set&&decide (s.t<s.cmp) then { s with t:=s.cmp } else s):=ite_C rfl rfl
 rw[this]
 rfl
theorem opC_with (i:MIns):opC (z5r m la ev s) i=z5r m la ev (opC s i):=by
 unfold opC
 cases z6q.lookup i.op with
 | none=>rfl
 | some q=>obtain⟨_,_,_⟩:=q;rfl
theorem insC_with (l:List Int) (es:List Ev) (i:MIns) (x:Int):insC (z5r m la ev s) l es i x=withO m la ev (insC s l es i x):=by
 unfold insC
 refine z3p rfl (z3p rfl (z3p rfl (z3p rfl (z3p rfl (z3p rfl (z3p rfl (z3p rfl (z3p rfl (z3p rfl ?_)))))))))
 refine z3p (pairO (z7m ..)) (z3p (pairO (z7m ..)) (z3p (pairO (z7m ..)) (z3p (pairO (z7m ..)) (z3p (pairO (z7m ..)) ?_))))
 refine z3p (z9n ..) (z3p (z9n ..) (z3p (z9n ..) ?_))
 refine z3p (pairO (csrS_with ..)) (z3p (pairO (csrS_with ..)) (z3p (pairO (csrS_with ..)) ?_))
 exact z3p rfl (z3p (pairO wfiC_with) (z3p rfl (z3p rfl (z3p rfl (pairO (opC_with i))))))
theorem doC_with (l:List Int) (es:List Ev):doC (z5r m la ev s) l es=withO m la ev (doC s l es):=by
 unfold doC
 refine z3p rfl (z3p rfl (z3p rfl ?_))
 show (match getV (z1l l (s.f 32) 4 false) with | none=>_ | some i=>_)=_
 cases getV (z1l l (s.f 32) 4 false) with
 | none=>rfl
 | some i=>exact z3p rfl (insC_with ..)
end
structure IsL (w:World) (p:Nat) (F:Nat→Prop) (s:CS) (l:List Int) (es:List Ev) (late:List Int):Prop where
 is:∃ ma mb mc gl B m la ev,z0v w p ma mb mc gl B (z5r m la ev s) l es late∧late.length≤1000∧∀ k,F k↔(k=p∨k=ma∨k=mb∨(0<late.length∧k=gl)∨ev.ownBlock=some k)
theorem z0v.keep {w w':World} {c ma mb mc gl B:Nat} {s:CS} {l:List Int} {es:List Ev} {late:List Int} {O:Nat→Prop} (h:z0v w c ma mb mc gl B s l es late) (hg:Chg O w w') (h1:¬O c) (h2:¬O ma) (h3:¬O mb) (h4:0<late.length→¬O gl) (h5:∀ k,s.ev.ownBlock=some k→¬O k):z0v w' c ma mb mc gl B s l es late:=
 ⟨h.core.chg hg h1,h.m,h.mem.keep (hg.block _ h.mem.there.1 h2) (hg.block _ h.mem.there.2 h3),h.lates.chg hg h4,z2z h.ev hg h5,h.na,h.nb,fun hq=>by
  obtain⟨q1,q2,q3,q4⟩:=h.ng hq
  exact⟨q1,q2,q3,Nat.lt_of_lt_of_le q4 hg.size⟩,h.cB,h.aB,h.bB,Nat.le_trans h.hB hg.size,h.x0⟩
theorem lNone (a:Option Addr) (cp:Nat) (v:Value) (w:World) :
  Calls Tryz.prog 8 #[.slice a 0 cp,v] w fun e w'=>e=.returned (.tuple #[.pointer none,.int .i64 1])∧w'=w:=by
 have CM:Hid _:=mnone a 0 cp w (Or.inl rfl) (by omega)
 go_enter Tryz.func8,Tryz.ntmps8
 go_wp2_with fail
 refine Calls.mono CM.out ?_
 rintro e w1 ⟨rfl,rfl⟩
 go_wp2
 go_ret2
 exact⟨rfl,rfl⟩
theorem lStep {w:World} {p:Nat} {F:Nat→Prop} {s:CS} {l:List Int} {es:List Ev} {late:List Int} (h:IsL w p F s l es late) (hG:Going late s l es) :
  Calls Tryz.prog 10 #[.pointer (some ⟨p,0,none⟩)] w fun e w'=>e=.returned (.bool (!s.stop))∧∃ F',IsL w' p F' (z3i late s l es).1 (z3i late s l es).2.1 (z3i late s l es).2.2 late∧Chg F w w'∧∀ k,F' k→F k∨w.heap.size≤k:=by
 obtain⟨ma,mb,mc,gl,B,m,la,ev,hc,hn,hF⟩:=h.is
 have hFi:Fine (z2t (z5r m la ev s)) es:=⟨hG.fine.f,hG.fine.t0,hG.fine.t1,hG.fine.c0,hG.fine.c1,hG.fine.tk,hG.fine.kd,hG.fine.en⟩
 cases hs:s.stop with
 | true=>
  refine (lstep_stop hc.core hs).mono ?_
  rintro e w' ⟨rfl,rfl⟩
  have e0:z3i late s l es=(s,l,es):=by unfold z3i;rw[if_pos hs]
  rw[e0]
  exact⟨rfl,F,⟨ma,mb,mc,gl,B,m,la,ev,hc,hn,hF⟩,Chg.refl _ _,fun k hk=>Or.inl hk⟩
 | false=>
  cases ht:z5y s with
  | true=>
   refine (lstep_timer hc hG.fine.f hs ht hG.fine.t0 hG.fine.t1 hn hG.c0 hG.more).mono ?_
   rintro e w' ⟨rfl,⟨la',q1⟩,q2⟩
   have e0:z3i late s l es=({ z2t s with f:=z5i s.f s.u 2147483655 0,u:=false,came:=s.came+1,t:=s.t+4+z4f s late },l,es):=by
    unfold z3i;rw[if_neg (by rw[hs];decide),if_pos ht]
   rw[e0]
   exact⟨rfl,F,⟨ma,mb,mc,gl,B,m,la',ev,q1,hn,hF⟩,q2.mono fun k _ e=>(hF k).2 (Or.inl e),fun k hk=>Or.inl hk⟩
  | false=>
   refine (lstep_do hc hG.fine.f hs ht _ (linstruct hFi).is).mono ?_
   rintro e w' ⟨rfl,⟨ev',q1,q2⟩,q3⟩
   rw[step_do hs ht]
   have e1:doC (z2t (z5r m la ev s)) l es=withO m la ev (doC (z2t s) l es):=doC_with (s:=z2t s) l es
   rw[e1] at q1
   refine⟨rfl,fun k=>k=p∨k=ma∨k=mb∨(0<late.length∧k=gl)∨ev'.ownBlock=some k,⟨ma,mb,mc,gl,B,m,la,ev',q1,hn,fun k=>Iff.rfl⟩,q3.mono fun k _ e=>(hF k).2 ?_,fun k hk=>?_⟩
   ·rcases e with e | e | e
    ·exact Or.inl e
    ·exact Or.inr (Or.inr (Or.inl e))
    ·exact Or.inr (Or.inr (Or.inr (Or.inr e)))
   ·rcases hk with e | e | e | e | e
    ·exact Or.inl ((hF k).2 (Or.inl e))
    ·exact Or.inl ((hF k).2 (Or.inr (Or.inl e)))
    ·exact Or.inl ((hF k).2 (Or.inr (Or.inr (Or.inl e))))
    ·exact Or.inl ((hF k).2 (Or.inr (Or.inr (Or.inr (Or.inl e)))))
    ·rcases q2 k e with r | r
     ·exact Or.inl ((hF k).2 (Or.inr (Or.inr (Or.inr (Or.inr r)))))
     ·exact Or.inr r
theorem coreK:CoreK IsL where
 keep:=fun {w w' p F O s l es late} h hg ho=>by
  obtain⟨ma,mb,mc,gl,B,m,la,ev,hc,hn,hF⟩:=h.is
  exact⟨ma,mb,mc,gl,B,m,la,ev,hc.keep hg (fun e=>ho _ e ((hF _).2 (Or.inl rfl))) (fun e=>ho _ e ((hF _).2 (Or.inr (Or.inl rfl)))) (fun e=>ho _ e ((hF _).2 (Or.inr (Or.inr (Or.inl rfl))))) (fun q e=>ho _ e ((hF _).2 (Or.inr (Or.inr (Or.inr (Or.inl ⟨q,rfl⟩)))))) (fun k hk e=>ho _ e ((hF _).2 (Or.inr (Or.inr (Or.inr (Or.inr hk)))))),hn,hF⟩
 lt:=fun {w p F s l es late} h k hk=>by
  obtain⟨ma,mb,mc,gl,B,m,la,ev,hc,hn,hF⟩:=h.is
  rcases (hF k).1 hk with e | e | e | ⟨q,e⟩ | e
  ·rw[e];exact hc.core.lt
  ·rw[e];exact hc.mem.there.1
  ·rw[e];exact hc.mem.there.2
  ·rw[e];exact (hc.ng q).2.2.2
  ·exact (z3k hc.ev k e).2
 any:=fun {w p F s l es late} m0 la0 ev0 h=>by
  obtain⟨ma,mb,mc,gl,B,m,la,ev,hc,hn,hF⟩:=h.is
  exact⟨ma,mb,mc,gl,B,m,la,ev,hc,hn,hF⟩
 new:=fun b off cp l v late w h0 hn hu hb hc hl hm=>by
  refine (lNew b off cp l v late w h0 hn hu hc hl hm).mono ?_
  rintro e w' ⟨c,ma,mb,mc,gl,m,la,rfl,q1,q2,q3,q4,q5,q6⟩
  refine⟨c,fun k=>k=c∨k=ma∨k=mb∨(0<late.length∧k=gl)∨(Value.slice none 0 0).ownBlock=some k,rfl,⟨ma,mb,mc,gl,_,m,la,_,q1,hm,fun k=>Iff.rfl⟩,q2,fun k hk=>?_⟩
  rcases hk with e | e | e | ⟨q,e⟩ | e
  ·rw[e];exact q3
  ·rw[e];exact q4
  ·rw[e];exact q5
  ·rw[e];exact q6 q
  ·cases e
 nothing:=fun sa cp v late w hl=>(lNone sa cp v w).mono fun e w' ⟨h1,h2⟩=>⟨h1,by rw[h2];exact Below.refl _ _⟩
 step:=fun h hG=>lStep h hG
 put:=fun {w p F s l es late} h f u hf=>by
  obtain⟨ma,mb,mc,gl,B,m,la,ev,hc,hn,hF⟩:=h.is
  refine (lPut hc.core f u).mono ?_
  rintro e w' ⟨rfl,q1,q2⟩
  exact⟨rfl,F,⟨ma,mb,mc,gl,B,m,la,ev,hc.own q1 q2 rfl rfl rfl rfl rfl,hn,hF⟩,q2.mono fun k _ e=>(hF k).2 (Or.inl e),fun k hk=>Or.inl hk⟩
 regs:=fun {w p F s l es late} h=>by
  obtain⟨ma,mb,mc,gl,B,m,la,ev,hc,hn,hF⟩:=h.is
  have q:=lRegs hc.core
  exact q
 time:=fun {w p F s l es late} h=>by
  obtain⟨ma,mb,mc,gl,B,m,la,ev,hc,hn,hF⟩:=h.is
  have q:=lTime hc.core
  exact q
 word:=fun {w p F s l es late} h x hx=>by
  obtain⟨ma,mb,mc,gl,B,m,la,ev,hc,hn,hF⟩:=h.is
  exact lWord hc x hx
 leak:=fun {w p F s l es late} h=>by
  obtain⟨ma,mb,mc,gl,B,m,la,ev,hc,hn,hF⟩:=h.is
  have q:=lLeak hc.core
  exact q
 events:=fun {w p F s l es late} h hl=>by
  obtain⟨ma,mb,mc,gl,B,m,la,ev,hc,hn,hF⟩:=h.is
  exact lEvents hc hl
end
end Go.Proofs.YtbmnmbkgdalkcaaGreatDoor
