/-
  Contracts of functions that the statement reaches, and what they are made of, callees first.
-/
import Derived.Deep.RegionLaw
import Derived.Test.YtilcoimelnpkeaaGreatDoorPzk
set_option maxRecDepth 100000
set_option maxHeartbeats 8000000
namespace Go.Proofs.YtilcoimelnpkeaaGreatDoor
open Go.RowKit
theorem ltell_say {w : World} {c : Nat} {s : CS} {B : Nat} {es : List Ev} (h : LAt w c s) (ho : w.ownsRow B 49 3 s.ev es.length (z5d es)) (hB : c < B) (hB' : B ≤ w.heap.size) (hlen : es.length ≤ 1000000) (x : Int) :
    Calls Tryz.prog 75 #[.pointer (some ⟨c,0,none⟩),.int .u32 1073741836,.int .u32 x] w fun e w'=>e=.returned (.bool true)∧∃ ev,LAt w' c { s with ev:=ev }∧w'.ownsRow B 49 3 ev (es.length+1) (z5d (es++[⟨s.task,s.kind,x⟩]))∧Chg (fun k=>k=c∨s.ev.ownBlock=some k) w w'∧∀ k,ev.ownBlock=some k→s.ev.ownBlock=some k∨w.heap.size≤k:=by
  obtain⟨i0,hi0,hz0,hz1,hz2⟩:=info_parts infoE
  have H1:Hid _:=h
  have O1:Hid _:=ho
  have c65:=h.cell 65 (by decide)
  have e65:z1a s 65=s.ev:=rfl
  rw[e65] at c65
  have c62:=h.cell 62 (by decide)
  have e62:z1a s 62=.int .i64 s.task:=rfl
  rw[e62] at c62
  have c63:=h.cell 63 (by decide)
  have e63:z1a s 63=.int .i64 s.kind:=rfl
  rw[e63] at c63
  have f65:=h.free 65
  have hc:c<w.heap.size:=by omega
  have HG:Hid (∀ b,s.ev.ownBlock=some b→B≤b∧b<w.heap.size):=fun b hb=>z3k ho b hb
  have ag:s.ev.ownBlock≠some c:=fun e=>by have:=(HG.out _ e).1;omega
  have K65:Hid (∀ o,((w.alloc o).drew).cell? ⟨c,65,none⟩=some s.ev):=fun o=>by
    show (w.alloc o).cell? _=_
    rw[((Below.refl w.heap.size w).alloc (Nat.le_refl _) o).cell (p:=⟨c,65,none⟩) hc]
    exact c65
  have F65:Hid (∀ o,((w.alloc o).drew).frozen? ⟨c,65,none⟩=false):=fun o=>by
    show (w.alloc o).frozen? _=_
    rw[((Below.refl w.heap.size w).alloc (Nat.le_refl _) o).frozen (p:=⟨c,65,none⟩) hc]
    exact f65
  clear e65 e62 e63 h ho
  obtain⟨ev,hev⟩:∃ ev,ev=s.ev:=⟨_,rfl⟩
  obtain⟨ta,hta⟩:∃ ta,ta=s.task:=⟨_,rfl⟩
  obtain⟨ki,hki⟩:∃ ki,ki=s.kind:=⟨_,rfl⟩
  rw[← hev] at c65 O1 K65 ag HG
  rw[← hta] at c62
  rw[← hki] at c63
  have HEV:Hid _:=hev
  have HTA:Hid _:=hta
  have HKI:Hid _:=hki
  clear hev hta hki
  go_enter Tryz.func75,Tryz.ntmps75
  go_wp2_with fail
  go_region_law
    ((refine step_append_lies _ (by rfl) _ _ _ (by rfl) B 49 i0 _ 3 24 Tryz.underlying46 hi0 hz0 hz1 hz2 rfl (by omega) ev es.length (z5d es) (by rfl) (World.ownsRow.drew (World.ownsRow.alloc O1.out _))
        ⟨w.heap.size,0,none⟩ 1 1 (z5p ⟨ta,ki,x⟩) (by rfl) (by rfl) (World.news_of_block (cs:=(z5p ⟨ta,ki,x⟩).toArray) (t:=49) (fr:=(0,0)) (heap_alloc_new w _)) (by simp[z5p,Value.oneCell'])
        (by omega) (by unfold maxLen;omega) (by omega) (by simp;omega) (w.heap.size+1) (by simp) ?_);(intro gg cap w1 hown1 hgrow hat hlt);(have q65:w1.cell? ⟨c,65,none⟩=some ev:=(hgrow.cell_far _ (by simp;omega) (Ne.symm ag)).trans (K65.out _));(have qf65:w1.frozen? ⟨c,65,none⟩=false:=(hgrow.frozen_far _ (by simp;omega) (Ne.symm ag)).trans (F65.out _)))
  all_goals
    have hb1:w1.heap[c]?=w.heap[c]?:=by
      rw[hgrow.block c (by simp;omega) (Ne.symm ag)]
      exact Below.heap_alloc _ _ _ hc
    have H5:Hid (LAt w1 c s):=⟨hb1.trans H1.out.is⟩
    have H6:Hid (LAt (w1.setCell ⟨c,65,none⟩ (.slice (some ⟨gg,0,none⟩) (es.length+1) cap)) c { s with ev:=.slice (some ⟨gg,0,none⟩) (es.length+1) cap }):=H5.out.put 65 _ (fun j _=>lg_ev s _ j)
    have G5:Chg (fun k=>k=c∨s.ev.ownBlock=some k) w w1:=⟨hgrow.os,hgrow.tape,hgrow.output,Nat.le_trans (by simp) hgrow.size,fun k hk ho=>by
      rw[hgrow.block k (by simp;omega) (fun e=>ho (Or.inr (by rw[← HEV.out];exact e.symm)))]
      exact Below.heap_alloc _ _ _ hk⟩
    have G6:Hid (Chg (fun k=>k=c∨s.ev.ownBlock=some k) w (w1.setCell ⟨c,65,none⟩ (.slice (some ⟨gg,0,none⟩) (es.length+1) cap))):=G5.set (O:=fun k=>k=c∨s.ev.ownBlock=some k) (Or.inl rfl) _
    have HFk:Hid (∀ k,(Value.slice (some ⟨gg,0,none⟩) (es.length+1) cap).ownBlock=some k→s.ev.ownBlock=some k∨w.heap.size≤k):=fun k hk=>by
      simp only[Value.ownBlock,Option.some.injEq] at hk
      subst hk
      rcases hat with e | e
      · exact Or.inl (by rw[← HEV.out];exact e)
      · exact Or.inr (by omega)
    have hgB:B≤gg:=by
      rcases hat with e | e
      · exact (HG.out _ e).1
      · omega
    have O6:Hid ((w1.setCell ⟨c,65,none⟩ (.slice (some ⟨gg,0,none⟩) (es.length+1) cap)).ownsRow B 49 3 (.slice (some ⟨gg,0,none⟩) (es.length+1) cap) (es.length+1) (z5d (es++[⟨ta,ki,x⟩]))):=by
      rw[evrow_append]
      obtain⟨h0,h1 | ⟨g,cp,cur,e1,e2,e3,e4,e5,e6,e7⟩⟩:=hown1
      · exact⟨h0,Or.inl h1⟩
      · exact⟨h0,Or.inr ⟨g,cp,cur,e1,e2,by rw[Below.heap_setCell _ _ _ _ (show g≠c by omega)];exact e3,e4,e5,e6,e7⟩⟩
    generalize w1.setCell ⟨c,65,none⟩ (.slice (some ⟨gg,0,none⟩) (es.length+1) cap)=W6 at *
    clear hb1 H5 G5 q65 qf65 hgrow hown1 K65 F65 c65 c62 c63 f65 hat
    go_wp2
    go_ret
    exact⟨rfl,_,H6.out,(by have:=O6.out;rw[HTA.out,HKI.out] at this;exact this),G6.out,HFk.out⟩
def devB (p:Int):Bool:=p==1073741824||p==1073741828||p==1073741832||p==1073741836||p==1073741840
def tellO (s:CS) (es:List Ev) (p x:Int):CS × List Ev:=
 if p=1073741824 then ({ s with set:=true,cmp:=s.t+2+x },es) else if p=1073741828 then ({ s with task:=x },es) else if p=1073741832 then ({ s with kind:=x },es)
 else if p=1073741836 then (s,es++[⟨s.task,s.kind,x⟩]) else if p=1073741840 then ({ s with stop:=true },es) else (s,es)
structure TellRes (b:Bool) (o:CS × List Ev) (w:World) (c ma mb mc gl B:Nat) (s:CS) (l:List Int) (late:List Int) (e:Ending) (w':World):Prop where
 is:e=.returned (.bool b)
 core:∃ ev,z0v w' c ma mb mc gl B { o.1 with ev:=ev } l o.2 late∧∀ k,ev.ownBlock=some k→s.ev.ownBlock=some k∨w.heap.size≤k
 chg:Chg (fun k=>k=c∨s.ev.ownBlock=some k) w w'
theorem tell_own {w w' : World} {c ma mb mc gl B : Nat} {s s' : CS} {l : List Int} {es : List Ev} {late : List Int} (h : z0v w c ma mb mc gl B s l es late) (hc : LAt w' c s') (hg : Chg (· = c) w w') (hm : s'.m = s.m) (hl : s'.la = s.la) (hk : s'.came = s.came) (he : s'.ev = s.ev) (h0 : s'.f 0 = 0) :
    (∃ ev,z0v w' c ma mb mc gl B { s' with ev:=ev } l es late∧∀ k,ev.ownBlock=some k→s.ev.ownBlock=some k∨w.heap.size≤k)∧Chg (fun k=>k=c∨s.ev.ownBlock=some k) w w':=
  ⟨⟨s'.ev,h.own hc hg hm hl hk he h0,fun k hk=>Or.inl (by rw[← he];exact hk)⟩,hg.mono fun k _ e=>Or.inl e⟩
theorem ltell {w:World} {c ma mb mc gl B:Nat} {s:CS} {l:List Int} {es:List Ev} {late:List Int} (h:z0v w c ma mb mc gl B s l es late) (p x:Int) (hx:U32 x) (ht:0≤s.t) (ht':s.t≤1152921504606846976) (hlen:es.length≤1000000) :
  Calls Tryz.prog 75 #[.pointer (some ⟨c,0,none⟩),.int .u32 p,.int .u32 x] w fun e w'=>TellRes (devB p) (tellO s es p x) w c ma mb mc gl B s l late e w':=by
 unfold tellO devB
 by_cases h1:p=1073741824
 ·rw[if_pos h1];subst h1
  refine (ltell_cmp h.core x hx ht ht').mono ?_
  rintro e w' ⟨rfl,q1,q2⟩
  obtain⟨r1,r2⟩:=tell_own h q1 q2 rfl rfl rfl rfl h.x0
  exact⟨rfl,r1,r2⟩
 rw[if_neg h1]
 by_cases h2:p=1073741828
 ·rw[if_pos h2];subst h2
  refine (ltell_task h.core x hx).mono ?_
  rintro e w' ⟨rfl,q1,q2⟩
  obtain⟨r1,r2⟩:=tell_own h q1 q2 rfl rfl rfl rfl h.x0
  exact⟨rfl,r1,r2⟩
 rw[if_neg h2]
 by_cases h3:p=1073741832
 ·rw[if_pos h3];subst h3
  refine (ltell_kind h.core x hx).mono ?_
  rintro e w' ⟨rfl,q1,q2⟩
  obtain⟨r1,r2⟩:=tell_own h q1 q2 rfl rfl rfl rfl h.x0
  exact⟨rfl,r1,r2⟩
 rw[if_neg h3]
 by_cases h4:p=1073741836
 ·rw[if_pos h4];subst h4
  refine (ltell_say h.core h.ev h.cB h.hB hlen x).mono ?_
  rintro e w' ⟨rfl,ev,q1,q2,q3,q4⟩
  have nev:∀ k,k<B→s.ev.ownBlock≠some k:=fun k hk e=>by have:=(z3k h.ev k e).1;omega
  refine⟨rfl,⟨ev,⟨q1,h.m,h.mem.keep (q3.block _ h.mem.there.1 ?_) (q3.block _ h.mem.there.2 ?_),h.lates.chg q3 (fun q e=>?_),?_,h.na,h.nb,fun hq=>?_,h.cB,h.aB,h.bB,Nat.le_trans h.hB q3.size,h.x0⟩,q4⟩,q3⟩
  ·rintro (e | e)
   ·exact h.na e
   ·exact nev _ h.aB e
  ·rintro (e | e)
   ·exact h.nb e
   ·exact nev _ h.bB e
  ·rcases e with e | e
   ·exact (h.ng q).1 e
   ·exact nev _ (h.ng q).2.2.1 e
  ·rw[show (es++[(⟨s.task,s.kind,x⟩:Ev)]).length=es.length+1 by simp]
   exact q2
  ·obtain⟨r1,r2,r3,r4⟩:=h.ng hq
   exact⟨r1,r2,r3,Nat.lt_of_lt_of_le r4 q3.size⟩
 rw[if_neg h4]
 by_cases h5:p=1073741840
 ·rw[if_pos h5];subst h5
  refine (ltell_stop h.core x hx).mono ?_
  rintro e w' ⟨rfl,q1,q2⟩
  obtain⟨r1,r2⟩:=tell_own h q1 q2 rfl rfl rfl rfl h.x0
  exact⟨rfl,r1,r2⟩
 rw[if_neg h5]
 refine (ltell_none c p x h1 h2 h3 h4 h5 w).mono ?_
 rintro e w' ⟨rfl,rfl⟩
 refine⟨?_,⟨s.ev,h,fun k hk=>Or.inl hk⟩,Chg.refl _ _⟩
 rw[beq_eq_false_iff_ne.2 h1,beq_eq_false_iff_ne.2 h2,beq_eq_false_iff_ne.2 h3,beq_eq_false_iff_ne.2 h4,beq_eq_false_iff_ne.2 h5]
 rfl
def z1s (nm:List UInt8):Int:=if nm=[108,98]∨nm=[108,98,117]∨nm=[115,98] then 1 else if nm=[108,104]∨nm=[108,104,117]∨nm=[115,104] then 2 else 4
def ldst:List (List UInt8):=[[108,98],[108,104],[108,119],[108,98,117],[108,104,117],[115,98],[115,104],[115,119]]
theorem csizeOf (nm:List UInt8) (hn:nm∈ldst) (w:World):Calls Tryz.prog 74 #[.string ⟨nm.toArray⟩] w fun e w'=>e=.returned (.int .i64 (z1s nm))∧w'=w:=by
 simp only[ldst,List.mem_cons,List.not_mem_nil,or_false] at hn
 rcases hn with rfl | rfl | rfl | rfl | rfl | rfl | rfl | rfl
 all_goals
  go_enter Tryz.func74,Tryz.ntmps74
  go_wp2
  go_ret
  exact⟨rfl,rfl⟩
theorem size_of (nm:List UInt8):z1s nm=1∨z1s nm=2∨z1s nm=4:=by
 unfold z1s
 split
 ·exact Or.inl rfl
 ·split
  ·exact Or.inr (Or.inl rfl)
  ·exact Or.inr (Or.inr rfl)
def signN (nm:List UInt8):Bool:=nm==[108,98]||nm==[108,104]
structure LoadRes (r:Option Int) (x p:Int) (w:World) (c ma mb mc gl B:Nat) (s:CS) (l:List Int) (es:List Ev) (late:List Int) (d:Nat) (e:Ending) (w':World):Prop where
  ok:r=none→e=.returned (.pointer none)∧z0v w' c ma mb mc gl B (setL { s with lat:=p } d x) l es late
  no:∀ k,r=some k→z0v w' c ma mb mc gl B { s with lat:=p } l es late∧∃ g,e=.returned (.pointer (some ⟨g,0,none⟩))∧w.heap.size≤g∧z9f w' g k p
  chg : Chg (· = c) w w'
theorem z8n {s:CS} (h:s.f 0=0) (d:Nat) (x:Int):(setL s d x).f 0=0:=by
 unfold setL
 by_cases hd:d=0
 ·rw[if_pos hd];exact h
 ·rw[if_neg hd]
  show set1 s.f d x 0=0
  unfold set1
  rw[if_neg (fun e=>hd e.symm)]
  exact h
theorem z3n (s:CS) (d:Nat) (x:Int):(setL s d x).m=s.m∧(setL s d x).la=s.la∧(setL s d x).came=s.came∧(setL s d x).ev=s.ev:=by
 unfold setL
 split <;> exact⟨rfl,rfl,rfl,rfl⟩
theorem lload {w : World} {c ma mb mc gl B : Nat} {s : CS} {l : List Int} {es : List Ev} {late : List Int} (h : z0v w c ma mb mc gl B s l es late) (hf : ∀ i, U32 (s.f i)) (nm : List UInt8) (hn : nm = [108, 98] ∨ nm = [108, 104] ∨ nm = [108, 119] ∨ nm = [108, 98, 117] ∨ nm = [108, 104, 117]) (d a b : Nat) (hd : d < 32) (ha : a < 32) (m p : Int) (hp : p = (s.f a + m % 4294967296) % 4294967296) :
    Calls Tryz.prog 58 #[.pointer (some ⟨c,0,none⟩),.agg #[.string ⟨nm.toArray⟩,.int .i64 d,.int .i64 a,.int .i64 b,.int .i32 m]] w fun e w'=>LoadRes (z5j s l p (z1s nm) 0) (z2r l.length l p (z1s nm) (signN nm)) p w c ma mb mc gl B s l es late d e w':=by
  have ha0:(0:Int)≤(a:Int):=by omega
  have ha1:(a:Int)<32:=by omega
  have HA:Hid _:=ha
  have HD:Hid _:=hd
  have HC:Hid _:=h
  have HF:Hid _:=hf
  have HU:Hid (U32 p):=by rw[hp];exact⟨by omega,by omega⟩
  have CZ:Hid _:=csizeOf nm (by rcases hn with rfl | rfl | rfl | rfl | rfl <;> decide)
  have HP:Hid _:=hp
  have hc:=h.core.lt
  clear h hf ha hd hp
  go_enter Tryz.func58,Tryz.ntmps58
  go_wp2_with fail
  have I1:=z0g w (.cells #[.string ⟨nm.toArray⟩,.int .i64 d,.int .i64 a,.int .i64 b,.int .i32 m] 24)
  have H1:Hid (z0v (w.alloc (.cells #[.string ⟨nm.toArray⟩,.int .i64 d,.int .i64 a,.int .i64 b,.int .i32 m] 24)) c ma mb mc gl B s l es late):=HC.out.below ((Below.refl _ _).alloc (Nat.le_refl _) _)
  have G1 : Hid (Chg (· = c) w (w.alloc (.cells #[.string ⟨nm.toArray⟩, .int .i64 d, .int .i64 a, .int .i64 b, .int .i32 m] 24))) := (Chg.refl _ _).alloc _
  have hbi:¬w.heap.size=c:=by omega
  generalize w.alloc (.cells #[.string ⟨nm.toArray⟩,.int .i64 d,.int .i64 a,.int .i64 b,.int .i32 m] 24)=W1 at *
  generalize hws:w.heap.size=bi at *
  have i2:=(z0a I1).1 2 (.int .i64 a) rfl
  have i4:=(z0a I1).1 4 (.int .i32 m) rfl
  have xa:=H1.out.core.x a HA.out
  go_quiet (fail)
  have H2:Hid (z0v (W1.drewN nq) c ma mb mc gl B s l es late):=H1.out.below (z1c W1 nq)
  have G2 : Hid (Chg (· = c) w (W1.drewN nq)) := G1.out.step (z1c W1 nq)
  have I2:=z0f I1 (z1c W1 nq)
  generalize W1.drewN nq=W2 at *
  clear H1 G1 I1 i2 i4 xa
  rw[← HP.out]
  have c67:=H2.out.core.cell 67 (by decide)
  have f67:=H2.out.core.free 67
  have e67:z1a s 67=.int .u32 s.lat:=rfl
  rw[e67] at c67
  have L3:Hid (LAt (W2.setCell ⟨c,67,none⟩ (.int .u32 p)) c { s with lat:=p }):=H2.out.core.put 67 _ (fun j _=>lg_lat s p j)
  have K3 : Hid (Chg (· = c) W2 (W2.setCell ⟨c, 67, none⟩ (.int .u32 p))) := (Chg.refl _ _).own _
  have H3:Hid (z0v (W2.setCell ⟨c,67,none⟩ (.int .u32 p)) c ma mb mc gl B { s with lat:=p } l es late):=H2.out.own L3.out K3.out rfl rfl rfl rfl H2.out.x0
  have G3 : Hid (Chg (· = c) w (W2.setCell ⟨c, 67, none⟩ (.int .u32 p))) := G2.out.trans K3.out
  have I3:(W2.setCell ⟨c,67,none⟩ (.int .u32 p)).heap[bi]?=some (.cells #[.string ⟨nm.toArray⟩,.int .i64 d,.int .i64 a,.int .i64 b,.int .i32 m] 24):=(K3.out.block bi (Array.getElem?_eq_some_iff.1 I2).1 hbi).trans I2
  clear e67 L3 K3 H2 G2 I2
  go_wp2_with fail
  generalize W2.setCell ⟨c,67,none⟩ (.int .u32 p)=W3 at *
  clear c67 f67
  have CT:Hid _:=fun (W:World) (hW:z0v W c ma mb mc gl B { s with lat:=p } l es late)=>ltake hW HF.out p (z1s nm) (signN nm) 0 HU.out (size_of nm) (Or.inl rfl)
  have HTK:Hid (z5j { s with lat:=p } l p (z1s nm) 0=z5j s l p (z1s nm) 0):=rfl
  cases hT:z5j s l p (z1s nm) 0 with
  | none=>
    have HT:Hid _:=hT
    clear hT
    rcases hn with rfl | rfl | rfl | rfl | rfl
    all_goals
      refine wp_region_noPanic ?_
      refine wp_region_held_drew (S:=fun w'=>w'.heap[bi]?=_) (by kernel_rfl) I3 (fun hHeld=>?_)
      refine z0n 0 (some 26) (v:=?_) rfl rfl (by kernel_rfl) (by kernel_rfl) (by kernel_rfl) (fun _ _ _ h=>h) (Or.inl ⟨by rfl,?_⟩) (by assumption) ?_
      rotate_left
      · intro w hSw
        have q0:=(z0a hSw).1 0 _ rfl
        clear hSw
        go_simp
        try with_reducible rfl
      simp only[Act.put,List.setIfInBounds_toArray,List.set_cons_zero,List.set_cons_succ]
      refine z0n 1 (some 27) (v:=?_) rfl rfl (by kernel_rfl) (by kernel_rfl) (by kernel_rfl) (fun _ _ _ h=>h) (Or.inl ⟨by rfl,?_⟩) (by assumption) ?_
      rotate_left
      · intro w hSw
        have q0:=(z0a hSw).1 0 _ rfl
        clear hSw
        go_simp
        try with_reducible rfl
      simp only[Act.put,List.setIfInBounds_toArray,List.set_cons_zero,List.set_cons_succ]
      refine z0n 2 (some 28) (v:=?_) rfl rfl (by kernel_rfl) (by kernel_rfl) (by kernel_rfl) (fun _ _ _ h=>h) (Or.inl ⟨by rfl,?_⟩) (by assumption) ?_
      rotate_left
      · intro w hSw
        have q0:=(z0a hSw).1 0 _ rfl
        clear hSw
        go_simp
        try with_reducible rfl
      simp only[Act.put,List.setIfInBounds_toArray,List.set_cons_zero,List.set_cons_succ]
      refine z0n 3 (some 29) (v:=?_) rfl rfl (by kernel_rfl) (by kernel_rfl) (by kernel_rfl) (fun _ _ _ h=>h) (Or.inl ⟨by rfl,?_⟩) (by assumption) ?_
      rotate_left
      · intro w hSw
        have q0:=(z0a hSw).1 0 _ rfl
        clear hSw
        go_simp
        try with_reducible rfl
      simp only[Act.put,List.setIfInBounds_toArray,List.set_cons_zero,List.set_cons_succ]
      refine z0n 5 (some 31) (v:=?_) rfl rfl (by kernel_rfl) (by kernel_rfl) (by kernel_rfl) (fun _ _ _ h=>h) (Or.inl ⟨by rfl,?_⟩) (by assumption) ?_
      rotate_left
      · intro w hSw
        have q0:=(z0a hSw).1 0 _ rfl
        clear hSw
        go_simp
        try with_reducible rfl
      simp only[Act.put,List.setIfInBounds_toArray,List.set_cons_zero,List.set_cons_succ]
      refine z0n 6 (some 32) (v:=?_) rfl rfl (by kernel_rfl) (by kernel_rfl) (by kernel_rfl) (fun _ _ _ h=>h) (Or.inl ⟨by rfl,?_⟩) (by assumption) ?_
      rotate_left
      · intro w hSw
        have q0:=(z0a hSw).1 0 _ rfl
        clear hSw
        go_simp
        try with_reducible rfl
      simp only[Act.put,List.setIfInBounds_toArray,List.set_cons_zero,List.set_cons_succ]
      refine z0n 7 (some 33) (v:=?_) rfl rfl (by kernel_rfl) (by kernel_rfl) (by kernel_rfl) (fun _ _ _ h=>h) (Or.inl ⟨by rfl,?_⟩) (by assumption) ?_
      rotate_left
      · intro w hSw
        have q0:=(z0a hSw).1 0 _ rfl
        clear hSw
        go_simp
        try with_reducible rfl
      simp only[Act.put,List.setIfInBounds_toArray,List.set_cons_zero,List.set_cons_succ]
      refine z5q 4 (some 30) 74 #[.string _] rfl rfl (by rfl) (by kernel_rfl) (by kernel_rfl) (Calls.mono (CZ.out _) ?_)
      rintro e wq ⟨rfl,hwq⟩
      rw[hwq]
      clear hwq wq
      refine⟨_,rfl,hHeld,fun hHeld=>?_⟩
      simp only[Act.put,List.setIfInBounds_toArray,List.set_cons_zero,List.set_cons_succ]
      refine z0n 8 (some 34) (v:=?_) rfl rfl (by kernel_rfl) (by kernel_rfl) (by kernel_rfl) (fun _ _ _ h=>h) (Or.inl ⟨by rfl,?_⟩) (by assumption) ?_
      rotate_left
      · intro w hSw
        have q0:=(z0a hSw).1 0 _ rfl
        clear hSw
        go_simp
        try with_reducible rfl
      simp only[Act.put,List.setIfInBounds_toArray,List.set_cons_zero,List.set_cons_succ]
      first
      | (refine z0n 9 (some 35) (v := ?_) rfl rfl (by kernel_rfl) (by kernel_rfl) (by kernel_rfl) (fun _ _ _ h => h) (Or.inl ⟨by rfl, ?_⟩) (by assumption) ?_
         rotate_left
         · intro w hSw
           have q0:=(z0a hSw).1 0 _ rfl
           clear hSw
           go_simp
           try with_reducible rfl
         simp only[Act.put,List.setIfInBounds_toArray,List.set_cons_zero,List.set_cons_succ])
      | (refine z0n 9 (some 35) (v := undef) rfl rfl (by kernel_rfl) (by kernel_rfl) (by kernel_rfl) (fun _ _ _ h => h) (Or.inr ⟨by rfl, rfl⟩) (by assumption) ?_
         simp only[Act.put,List.setIfInBounds_toArray,List.set_cons_zero,List.set_cons_succ])
      first
      | (refine z0n 10 (some 36) (v := ?_) rfl rfl (by kernel_rfl) (by kernel_rfl) (by kernel_rfl) (fun _ _ _ h => h) (Or.inl ⟨by rfl, ?_⟩) (by assumption) ?_
         rotate_left
         · intro w hSw
           have q0:=(z0a hSw).1 0 _ rfl
           clear hSw
           go_simp
           try with_reducible rfl
         simp only[Act.put,List.setIfInBounds_toArray,List.set_cons_zero,List.set_cons_succ])
      | (refine z0n 10 (some 36) (v := undef) rfl rfl (by kernel_rfl) (by kernel_rfl) (by kernel_rfl) (fun _ _ _ h => h) (Or.inr ⟨by rfl, rfl⟩) (by assumption) ?_
         simp only[Act.put,List.setIfInBounds_toArray,List.set_cons_zero,List.set_cons_succ])
      first
      | (refine z0n 11 (some 37) (v := ?_) rfl rfl (by kernel_rfl) (by kernel_rfl) (by kernel_rfl) (fun _ _ _ h => h) (Or.inl ⟨by rfl, ?_⟩) (by assumption) ?_
         rotate_left
         · intro w hSw
           have q0:=(z0a hSw).1 0 _ rfl
           clear hSw
           go_simp
           try with_reducible rfl
         simp only[Act.put,List.setIfInBounds_toArray,List.set_cons_zero,List.set_cons_succ])
      | (refine z0n 11 (some 37) (v := undef) rfl rfl (by kernel_rfl) (by kernel_rfl) (by kernel_rfl) (fun _ _ _ h => h) (Or.inr ⟨by rfl, rfl⟩) (by assumption) ?_
         simp only[Act.put,List.setIfInBounds_toArray,List.set_cons_zero,List.set_cons_succ])
      refine z0n 12 (some 38) (v:=?_) rfl rfl (by kernel_rfl) (by kernel_rfl) (by kernel_rfl) (fun _ _ _ h=>h) (Or.inl ⟨by rfl,?_⟩) (by assumption) ?_
      rotate_left
      · intro w hSw
        have q0:=(z0a hSw).1 0 _ rfl
        clear hSw
        go_simp
        try with_reducible rfl
      simp only[Act.put,List.setIfInBounds_toArray,List.set_cons_zero,List.set_cons_succ]
      refine z5q 13 (some 39) 53 #[.pointer (some ⟨c,0,none⟩),.int .u32 p,.int .i64 (z1s _),.bool (signN _),.int .i64 0] rfl rfl (by rfl) (by kernel_rfl) (by kernel_rfl) (Calls.mono (CT.out _ (H3.out.below (Below.refl _ _).drew)) ?_)
      intro e w5 q
      rw[HTK.out,HT.out] at q
      have q3:=q.below
      have H5:Hid (z0v w5 c ma mb mc gl B { s with lat:=p } l es late):=(H3.out.below (Below.refl _ _).drew).below q3
      have G5 : Hid (Chg (· = c) w w5) := G3.out.drew.step q3
      obtain rfl:=q.ok rfl
      clear q
      refine⟨_,rfl,z0f hHeld q3,fun hHeld=>?_⟩
      simp only[Act.put,List.setIfInBounds_toArray,List.set_cons_zero,List.set_cons_succ]
      refine z0n 14 (some 25) (v:=?_) rfl rfl (by kernel_rfl) (by kernel_rfl) (by kernel_rfl) (fun _ _ _ h=>h) (Or.inl ⟨by rfl,?_⟩) (by assumption) ?_
      rotate_left
      · intro w hSw
        have q0:=(z0a hSw).1 0 _ rfl
        clear hSw
        go_simp
        try with_reducible rfl
      simp only[Act.put,List.setIfInBounds_toArray,List.set_cons_zero,List.set_cons_succ]
      refine z0n 15 (some 40) (v:=?_) rfl rfl (by kernel_rfl) (by kernel_rfl) (by kernel_rfl) (fun _ _ _ h=>h) (Or.inl ⟨by rfl,?_⟩) (by assumption) ?_
      rotate_left
      · intro w hSw
        have q0:=(z0a hSw).1 0 _ rfl
        clear hSw
        go_simp
        try with_reducible rfl
      simp only[Act.put,List.setIfInBounds_toArray,List.set_cons_zero,List.set_cons_succ]
      refine z0n 16 (some 41) (v:=?_) rfl rfl (by kernel_rfl) (by kernel_rfl) (by kernel_rfl) (fun _ _ _ h=>h) (Or.inl ⟨by rfl,?_⟩) (by assumption) ?_
      rotate_left
      · intro w hSw
        have q0:=(z0a hSw).1 0 _ rfl
        clear hSw
        go_simp
        try with_reducible rfl
      simp only[Act.put,List.setIfInBounds_toArray,List.set_cons_zero,List.set_cons_succ]
      refine z0n 17 (some 6) (v:=?_) rfl rfl (by kernel_rfl) (by kernel_rfl) (by kernel_rfl) (fun _ _ _ h=>h) (Or.inl ⟨by rfl,?_⟩) (by assumption) ?_
      rotate_left
      · intro w hSw
        have q0:=(z0a hSw).1 0 _ rfl
        clear hSw
        go_simp
        try with_reducible rfl
      simp only[Act.put,List.setIfInBounds_toArray,List.set_cons_zero,List.set_cons_succ]
      refine z0n 18 (some 7) (v:=?_) rfl rfl (by kernel_rfl) (by kernel_rfl) (by kernel_rfl) (fun _ _ _ h=>h) (Or.inl ⟨by rfl,?_⟩) (by assumption) ?_
      rotate_left
      · intro w hSw
        have q0:=(z0a hSw).1 0 _ rfl
        clear hSw
        go_simp
        try with_reducible rfl
      simp only[Act.put,List.setIfInBounds_toArray,List.set_cons_zero,List.set_cons_succ]
      refine wpAnyH_done (by kernel_rfl) ?_ _
      refine NoPanic.normal ?_
      have i1:=(z0a hHeld).1 1 (.int .i64 d) rfl
      clear hHeld q3
      go_wp2_with fail
      refine (lset H5.out.core d HD.out _).mono ?_
      rintro e w6 ⟨rfl,h6,g6⟩
      have H6:Hid _:=h6
      have K6:Hid _:=g6
      clear h6 g6 i1
      go_wp2
      go_ret
      rw[HT.out]
      exact⟨fun _=>⟨rfl,H5.out.own H6.out K6.out (z3n _ _ _).1 (z3n _ _ _).2.1 (z3n _ _ _).2.2.1 (z3n _ _ _).2.2.2 (z8n H5.out.x0 _ _)⟩,fun _ hk=>(by cases hk),G5.out.trans K6.out⟩
  | some k=>
    have HT:Hid _:=hT
    clear hT
    rcases hn with rfl | rfl | rfl | rfl | rfl
    all_goals
      refine wp_region_noPanic ?_
      refine wp_region_held_drew (S:=fun w'=>w'.heap[bi]?=_) (by kernel_rfl) I3 (fun hHeld=>?_)
      refine z0n 0 (some 26) (v:=?_) rfl rfl (by kernel_rfl) (by kernel_rfl) (by kernel_rfl) (fun _ _ _ h=>h) (Or.inl ⟨by rfl,?_⟩) (by assumption) ?_
      rotate_left
      · intro w hSw
        have q0:=(z0a hSw).1 0 _ rfl
        clear hSw
        go_simp
        try with_reducible rfl
      simp only[Act.put,List.setIfInBounds_toArray,List.set_cons_zero,List.set_cons_succ]
      refine z0n 1 (some 27) (v:=?_) rfl rfl (by kernel_rfl) (by kernel_rfl) (by kernel_rfl) (fun _ _ _ h=>h) (Or.inl ⟨by rfl,?_⟩) (by assumption) ?_
      rotate_left
      · intro w hSw
        have q0:=(z0a hSw).1 0 _ rfl
        clear hSw
        go_simp
        try with_reducible rfl
      simp only[Act.put,List.setIfInBounds_toArray,List.set_cons_zero,List.set_cons_succ]
      refine z0n 2 (some 28) (v:=?_) rfl rfl (by kernel_rfl) (by kernel_rfl) (by kernel_rfl) (fun _ _ _ h=>h) (Or.inl ⟨by rfl,?_⟩) (by assumption) ?_
      rotate_left
      · intro w hSw
        have q0:=(z0a hSw).1 0 _ rfl
        clear hSw
        go_simp
        try with_reducible rfl
      simp only[Act.put,List.setIfInBounds_toArray,List.set_cons_zero,List.set_cons_succ]
      refine z0n 3 (some 29) (v:=?_) rfl rfl (by kernel_rfl) (by kernel_rfl) (by kernel_rfl) (fun _ _ _ h=>h) (Or.inl ⟨by rfl,?_⟩) (by assumption) ?_
      rotate_left
      · intro w hSw
        have q0:=(z0a hSw).1 0 _ rfl
        clear hSw
        go_simp
        try with_reducible rfl
      simp only[Act.put,List.setIfInBounds_toArray,List.set_cons_zero,List.set_cons_succ]
      refine z0n 5 (some 31) (v:=?_) rfl rfl (by kernel_rfl) (by kernel_rfl) (by kernel_rfl) (fun _ _ _ h=>h) (Or.inl ⟨by rfl,?_⟩) (by assumption) ?_
      rotate_left
      · intro w hSw
        have q0:=(z0a hSw).1 0 _ rfl
        clear hSw
        go_simp
        try with_reducible rfl
      simp only[Act.put,List.setIfInBounds_toArray,List.set_cons_zero,List.set_cons_succ]
      refine z0n 6 (some 32) (v:=?_) rfl rfl (by kernel_rfl) (by kernel_rfl) (by kernel_rfl) (fun _ _ _ h=>h) (Or.inl ⟨by rfl,?_⟩) (by assumption) ?_
      rotate_left
      · intro w hSw
        have q0:=(z0a hSw).1 0 _ rfl
        clear hSw
        go_simp
        try with_reducible rfl
      simp only[Act.put,List.setIfInBounds_toArray,List.set_cons_zero,List.set_cons_succ]
      refine z0n 7 (some 33) (v:=?_) rfl rfl (by kernel_rfl) (by kernel_rfl) (by kernel_rfl) (fun _ _ _ h=>h) (Or.inl ⟨by rfl,?_⟩) (by assumption) ?_
      rotate_left
      · intro w hSw
        have q0:=(z0a hSw).1 0 _ rfl
        clear hSw
        go_simp
        try with_reducible rfl
      simp only[Act.put,List.setIfInBounds_toArray,List.set_cons_zero,List.set_cons_succ]
      refine z5q 4 (some 30) 74 #[.string _] rfl rfl (by rfl) (by kernel_rfl) (by kernel_rfl) (Calls.mono (CZ.out _) ?_)
      rintro e wq ⟨rfl,hwq⟩
      rw[hwq]
      clear hwq wq
      refine⟨_,rfl,hHeld,fun hHeld=>?_⟩
      simp only[Act.put,List.setIfInBounds_toArray,List.set_cons_zero,List.set_cons_succ]
      refine z0n 8 (some 34) (v:=?_) rfl rfl (by kernel_rfl) (by kernel_rfl) (by kernel_rfl) (fun _ _ _ h=>h) (Or.inl ⟨by rfl,?_⟩) (by assumption) ?_
      rotate_left
      · intro w hSw
        have q0:=(z0a hSw).1 0 _ rfl
        clear hSw
        go_simp
        try with_reducible rfl
      simp only[Act.put,List.setIfInBounds_toArray,List.set_cons_zero,List.set_cons_succ]
      first
      | (refine z0n 9 (some 35) (v := ?_) rfl rfl (by kernel_rfl) (by kernel_rfl) (by kernel_rfl) (fun _ _ _ h => h) (Or.inl ⟨by rfl, ?_⟩) (by assumption) ?_
         rotate_left
         · intro w hSw
           have q0:=(z0a hSw).1 0 _ rfl
           clear hSw
           go_simp
           try with_reducible rfl
         simp only[Act.put,List.setIfInBounds_toArray,List.set_cons_zero,List.set_cons_succ])
      | (refine z0n 9 (some 35) (v := undef) rfl rfl (by kernel_rfl) (by kernel_rfl) (by kernel_rfl) (fun _ _ _ h => h) (Or.inr ⟨by rfl, rfl⟩) (by assumption) ?_
         simp only[Act.put,List.setIfInBounds_toArray,List.set_cons_zero,List.set_cons_succ])
      first
      | (refine z0n 10 (some 36) (v := ?_) rfl rfl (by kernel_rfl) (by kernel_rfl) (by kernel_rfl) (fun _ _ _ h => h) (Or.inl ⟨by rfl, ?_⟩) (by assumption) ?_
         rotate_left
         · intro w hSw
           have q0:=(z0a hSw).1 0 _ rfl
           clear hSw
           go_simp
           try with_reducible rfl
         simp only[Act.put,List.setIfInBounds_toArray,List.set_cons_zero,List.set_cons_succ])
      | (refine z0n 10 (some 36) (v := undef) rfl rfl (by kernel_rfl) (by kernel_rfl) (by kernel_rfl) (fun _ _ _ h => h) (Or.inr ⟨by rfl, rfl⟩) (by assumption) ?_
         simp only[Act.put,List.setIfInBounds_toArray,List.set_cons_zero,List.set_cons_succ])
      first
      | (refine z0n 11 (some 37) (v := ?_) rfl rfl (by kernel_rfl) (by kernel_rfl) (by kernel_rfl) (fun _ _ _ h => h) (Or.inl ⟨by rfl, ?_⟩) (by assumption) ?_
         rotate_left
         · intro w hSw
           have q0:=(z0a hSw).1 0 _ rfl
           clear hSw
           go_simp
           try with_reducible rfl
         simp only[Act.put,List.setIfInBounds_toArray,List.set_cons_zero,List.set_cons_succ])
      | (refine z0n 11 (some 37) (v := undef) rfl rfl (by kernel_rfl) (by kernel_rfl) (by kernel_rfl) (fun _ _ _ h => h) (Or.inr ⟨by rfl, rfl⟩) (by assumption) ?_
         simp only[Act.put,List.setIfInBounds_toArray,List.set_cons_zero,List.set_cons_succ])
      refine z0n 12 (some 38) (v:=?_) rfl rfl (by kernel_rfl) (by kernel_rfl) (by kernel_rfl) (fun _ _ _ h=>h) (Or.inl ⟨by rfl,?_⟩) (by assumption) ?_
      rotate_left
      · intro w hSw
        have q0:=(z0a hSw).1 0 _ rfl
        clear hSw
        go_simp
        try with_reducible rfl
      simp only[Act.put,List.setIfInBounds_toArray,List.set_cons_zero,List.set_cons_succ]
      refine z5q 13 (some 39) 53 #[.pointer (some ⟨c,0,none⟩),.int .u32 p,.int .i64 (z1s _),.bool (signN _),.int .i64 0] rfl rfl (by rfl) (by kernel_rfl) (by kernel_rfl) (Calls.mono (CT.out _ (H3.out.below (Below.refl _ _).drew)) ?_)
      intro e w5 q
      rw[HTK.out,HT.out] at q
      have q3:=q.below
      have H5:Hid (z0v w5 c ma mb mc gl B { s with lat:=p } l es late):=(H3.out.below (Below.refl _ _).drew).below q3
      have G5 : Hid (Chg (· = c) w w5) := G3.out.drew.step q3
      obtain⟨g,rfl,g1,g2⟩:=q.no _ rfl
      have G2:Hid _:=g2
      have g1':w.heap.size≤g:=Nat.le_trans G3.out.drew.size g1
      clear q g1 g2
      refine⟨_,rfl,z0f hHeld q3,fun hHeld=>?_⟩
      simp only[Act.put,List.setIfInBounds_toArray,List.set_cons_zero,List.set_cons_succ]
      refine z0n 14 (some 25) (v:=?_) rfl rfl (by kernel_rfl) (by kernel_rfl) (by kernel_rfl) (fun _ _ _ h=>h) (Or.inl ⟨by rfl,?_⟩) (by assumption) ?_
      rotate_left
      · intro w hSw
        have q0:=(z0a hSw).1 0 _ rfl
        clear hSw
        go_simp
        try with_reducible rfl
      simp only[Act.put,List.setIfInBounds_toArray,List.set_cons_zero,List.set_cons_succ]
      refine z0n 15 (some 40) (v:=?_) rfl rfl (by kernel_rfl) (by kernel_rfl) (by kernel_rfl) (fun _ _ _ h=>h) (Or.inl ⟨by rfl,?_⟩) (by assumption) ?_
      rotate_left
      · intro w hSw
        have q0:=(z0a hSw).1 0 _ rfl
        clear hSw
        go_simp
        try with_reducible rfl
      simp only[Act.put,List.setIfInBounds_toArray,List.set_cons_zero,List.set_cons_succ]
      refine z0n 16 (some 41) (v:=?_) rfl rfl (by kernel_rfl) (by kernel_rfl) (by kernel_rfl) (fun _ _ _ h=>h) (Or.inl ⟨by rfl,?_⟩) (by assumption) ?_
      rotate_left
      · intro w hSw
        have q0:=(z0a hSw).1 0 _ rfl
        clear hSw
        go_simp
        try with_reducible rfl
      simp only[Act.put,List.setIfInBounds_toArray,List.set_cons_zero,List.set_cons_succ]
      refine z0n 17 (some 6) (v:=?_) rfl rfl (by kernel_rfl) (by kernel_rfl) (by kernel_rfl) (fun _ _ _ h=>h) (Or.inl ⟨by rfl,?_⟩) (by assumption) ?_
      rotate_left
      · intro w hSw
        have q0:=(z0a hSw).1 0 _ rfl
        clear hSw
        go_simp
        try with_reducible rfl
      simp only[Act.put,List.setIfInBounds_toArray,List.set_cons_zero,List.set_cons_succ]
      refine z0n 18 (some 7) (v:=?_) rfl rfl (by kernel_rfl) (by kernel_rfl) (by kernel_rfl) (fun _ _ _ h=>h) (Or.inl ⟨by rfl,?_⟩) (by assumption) ?_
      rotate_left
      · intro w hSw
        have q0:=(z0a hSw).1 0 _ rfl
        clear hSw
        go_simp
        try with_reducible rfl
      simp only[Act.put,List.setIfInBounds_toArray,List.set_cons_zero,List.set_cons_succ]
      refine wpAnyH_done (by kernel_rfl) ?_ _
      refine NoPanic.normal ?_
      clear hHeld q3
      go_wp2
      go_ret
      rw[HT.out]
      exact⟨fun h=>(by cases h),fun k hk=>(by cases hk;exact⟨H5.out,g,rfl,g1',G2.out⟩),G5.out⟩
def z7u (s:CS) (p n:Int):Bool:=!s.u&&(n==4)&&devB p
def stO (s:CS) (l:List Int) (es:List Ev) (p n x:Int):St:=if z7u s p n then ((tellO { s with lat:=p } es p x).1,l,(tellO { s with lat:=p } es p x).2) else ({ s with lat:=p },z5z l p n x,es)
def stR (s:CS) (l:List Int) (p n:Int):Option Int:=match barV s p n 1 with
 | some k=>some k
 | none=>if z7u s p n then none else if askV l.length p n≠0 then some 7 else none
structure StoreRes (r:Option Int) (o:St) (p:Int) (w:World) (c ma mb mc gl B:Nat) (s:CS) (l:List Int) (es:List Ev) (late:List Int) (e:Ending) (w':World):Prop where
 ok:r=none→e=.returned (.pointer none)∧∃ ev,z0v w' c ma mb mc gl B { o.1 with ev:=ev } o.2.1 o.2.2 late∧∀ k,ev.ownBlock=some k→s.ev.ownBlock=some k∨w.heap.size≤k
 no:∀ k,r=some k→z0v w' c ma mb mc gl B { s with lat:=p } l es late∧∃ g,e=.returned (.pointer (some ⟨g,0,none⟩))∧w.heap.size≤g∧z9f w' g k p
 chg:Chg (fun k=>k=c∨k=mb∨s.ev.ownBlock=some k) w w'
theorem z0v.memory {w w' : World} {c ma mb mc gl B : Nat} {s : CS} {l l' : List Int} {es : List Ev} {late : List Int} (h : z0v w c ma mb mc gl B s l es late) (hl : Lies w' ma mb mc l') (hg : z6w (· = mb) w w') : z0v w' c ma mb mc gl B s l' es late ∧ Chg (· = mb) w w' := by
  have g : Chg (· = mb) w w' := ⟨hg.os, hg.tape, hg.output, hg.size, hg.block⟩
  exact⟨⟨h.core.chg g (Ne.symm h.nb),h.m,hl,h.lates.chg g (fun q=>(h.ng q).2.1),z2z h.ev g (fun k hk e=>by have:=(z3k h.ev k hk).1;have:=h.bB;omega),h.na,h.nb,fun hq=>by
    obtain⟨r1,r2,r3,r4⟩:=h.ng hq
    exact⟨r1,r2,r3,Nat.lt_of_lt_of_le r4 g.size⟩,h.cB,h.aB,h.bB,Nat.le_trans h.hB g.size,h.x0⟩,g⟩
theorem lstore {w : World} {c ma mb mc gl B : Nat} {s : CS} {l : List Int} {es : List Ev} {late : List Int} (h : z0v w c ma mb mc gl B s l es late) (hf : ∀ i, U32 (s.f i)) (ht : 0 ≤ s.t) (ht' : s.t ≤ 1152921504606846976) (hlen : es.length ≤ 1000000) (nm : List UInt8) (hn : nm = [115, 98] ∨ nm = [115, 104] ∨ nm = [115, 119]) (d a b : Nat) (ha : a < 32) (hb : b < 32) (m p : Int) (hp : p = (s.f a + m % 4294967296) % 4294967296) :
    Calls Tryz.prog 59 #[.pointer (some ⟨c,0,none⟩),.agg #[.string ⟨nm.toArray⟩,.int .i64 d,.int .i64 a,.int .i64 b,.int .i32 m]] w fun e w'=>StoreRes (stR s l p (z1s nm)) (stO s l es p (z1s nm) (s.f b)) p w c ma mb mc gl B s l es late e w':=by
  have ha0:(0:Int)≤(a:Int):=by omega
  have ha1:(a:Int)<32:=by omega
  have hb0:(0:Int)≤(b:Int):=by omega
  have hb1:(b:Int)<32:=by omega
  have HA:Hid _:=ha
  have HBB:Hid _:=hb
  have HC:Hid _:=h
  have HF:Hid _:=hf
  have HTT:Hid _:=And.intro ht ht'
  have HLN:Hid _:=hlen
  have HU:Hid (U32 p):=by rw[hp];exact⟨by omega,by omega⟩
  have CZ:Hid _:=csizeOf nm (by rcases hn with rfl | rfl | rfl <;> decide)
  have HP:Hid _:=hp
  have CU:Hid _:=cunreached p 1 (Or.inr (Or.inl rfl))
  have hc:=h.core.lt
  clear h hf ha hb hp ht ht' hlen
  go_enter Tryz.func59,Tryz.ntmps59
  go_wp2_with fail
  have I1:=z0g w (.cells #[.string ⟨nm.toArray⟩,.int .i64 d,.int .i64 a,.int .i64 b,.int .i32 m] 24)
  have H1:Hid (z0v (w.alloc (.cells #[.string ⟨nm.toArray⟩,.int .i64 d,.int .i64 a,.int .i64 b,.int .i32 m] 24)) c ma mb mc gl B s l es late):=HC.out.below ((Below.refl _ _).alloc (Nat.le_refl _) _)
  have G1 : Hid (Chg (· = c) w (w.alloc (.cells #[.string ⟨nm.toArray⟩, .int .i64 d, .int .i64 a, .int .i64 b, .int .i32 m] 24))) := (Chg.refl _ _).alloc _
  have hbi:¬w.heap.size=c:=by omega
  generalize w.alloc (.cells #[.string ⟨nm.toArray⟩,.int .i64 d,.int .i64 a,.int .i64 b,.int .i32 m] 24)=W1 at *
  generalize hws:w.heap.size=bi at *
  have i0:=(z0a I1).1 0 (.string ⟨nm.toArray⟩) rfl
  have i2:=(z0a I1).1 2 (.int .i64 a) rfl
  have i4:=(z0a I1).1 4 (.int .i32 m) rfl
  have xa:=H1.out.core.x a HA.out
  go_quiet (first | (go_at_call 74;exact Calls.quiet_of_same (CZ.out _)))
  have H2:Hid (z0v (W1.drewN nq) c ma mb mc gl B s l es late):=H1.out.below (z1c W1 nq)
  have G2 : Hid (Chg (· = c) w (W1.drewN nq)) := G1.out.step (z1c W1 nq)
  have I2:=z0f I1 (z1c W1 nq)
  generalize W1.drewN nq=W2 at *
  clear H1 G1 I1 i0 i2 i4 xa
  rw[← HP.out]
  have c67:=H2.out.core.cell 67 (by decide)
  have f67:=H2.out.core.free 67
  have e67:z1a s 67=.int .u32 s.lat:=rfl
  rw[e67] at c67
  have L3:Hid (LAt (W2.setCell ⟨c,67,none⟩ (.int .u32 p)) c { s with lat:=p }):=H2.out.core.put 67 _ (fun j _=>lg_lat s p j)
  have K3 : Hid (Chg (· = c) W2 (W2.setCell ⟨c, 67, none⟩ (.int .u32 p))) := (Chg.refl _ _).own _
  have H3:Hid (z0v (W2.setCell ⟨c,67,none⟩ (.int .u32 p)) c ma mb mc gl B { s with lat:=p } l es late):=H2.out.own L3.out K3.out rfl rfl rfl rfl H2.out.x0
  have G3 : Hid (Chg (· = c) w (W2.setCell ⟨c, 67, none⟩ (.int .u32 p))) := G2.out.trans K3.out
  have I3:(W2.setCell ⟨c,67,none⟩ (.int .u32 p)).heap[bi]?=some (.cells #[.string ⟨nm.toArray⟩,.int .i64 d,.int .i64 a,.int .i64 b,.int .i32 m] 24):=(K3.out.block bi (Array.getElem?_eq_some_iff.1 I2).1 hbi).trans I2
  clear e67 L3 K3 H2 G2 I2
  go_wp2_with fail
  generalize W2.setCell ⟨c,67,none⟩ (.int .u32 p)=W3 at *
  clear c67 f67 hbi
  refine Calls.mono (lbarred H3.out.core HF.out p (z1s nm) 1 HU.out (size_of nm) (Or.inr (Or.inl rfl))) ?_
  intro e w4 q
  have HBV:Hid (barV { s with lat:=p } p (z1s nm) 1=barV s p (z1s nm) 1):=rfl
  rw[HBV.out] at q
  have HSR:Hid (stR s l p (z1s nm)=match barV s p (z1s nm) 1 with | some k=>some k | none=>if z7u s p (z1s nm) then none else if askV l.length p (z1s nm)≠0 then some 7 else none):=rfl
  have H4:Hid (z0v w4 c ma mb mc gl B { s with lat:=p } l es late):=H3.out.below q.below
  have G4 : Hid (Chg (· = c) w w4) := G3.out.step q.below
  have I4:=z0f I3 q.below
  have hs4:W3.heap.size≤w4.heap.size:=q.below.size
  have hs3:bi≤W3.heap.size:=by rw[← hws];exact G3.out.size
  clear H3 G3 I3
  cases hbv:barV s p (z1s nm) 1 with
  | some k=>
    rw[hbv] at q HSR
    obtain⟨g,rfl,g1,g2⟩:=q.no k rfl
    have GF:Hid _:=g2
    clear q g2
    go_wp2
    go_ret
    rw[HSR.out]
    exact⟨fun h=>(by cases h),fun k' hk=>(by cases hk;exact⟨H4.out,g,rfl,(by omega),GF.out⟩),G4.out.mono fun k _ e=>Or.inl e⟩
  | none=>
    rw[hbv] at q HSR
    obtain rfl:=q.ok rfl
    clear q
    have HSR2:Hid (stR s l p (z1s nm)=if z7u s p (z1s nm) then none else if askV l.length p (z1s nm)≠0 then some 7 else none):=HSR.out
    clear HSR HBV hbv
    have i3:=(z0a I4).1 3 (.int .i64 b) rfl
    have xb:=H4.out.core.x b HBB.out
    have xb':w4.cell? ⟨c,1+b,none⟩=some (.int .u32 (s.f b)):=xb
    clear xb
    go_wp2_with fail
    go_quiet (fail)
    have H5:Hid (z0v (w4.drewN nq) c ma mb mc gl B { s with lat:=p } l es late):=H4.out.below (z1c w4 nq)
    have G5 : Hid (Chg (· = c) w (w4.drewN nq)) := G4.out.step (z1c w4 nq)
    have hs5:(w4.drewN nq).heap.size=w4.heap.size:=rfl
    generalize w4.drewN nq=W5 at *
    clear H4 G4 I4 i3 xb'
    have c34:=H5.out.core.cell 34 (by decide)
    have e34:z1a { s with lat:=p } 34=.bool s.u:=rfl
    rw[e34] at c34
    have c0:=H5.out.core.cell 0 (by decide)
    have e0:z1a { s with lat:=p } 0=.pointer (some ⟨ma,0,none⟩):=H5.out.m
    rw[e0] at c0
    clear e34 e0
    have HX:Hid (U32 (s.f b)):=HF.out b
    have HSO:Hid (stO s l es p (z1s nm) (s.f b)=if z7u s p (z1s nm) then ((tellO { s with lat:=p } es p (s.f b)).1,l,(tellO { s with lat:=p } es p (s.f b)).2) else ({ s with lat:=p },z5z l p (z1s nm) (s.f b),es)):=rfl
    have CT:Hid _:=ltell H5.out p (s.f b) HX.out HTT.out.1 HTT.out.2 HLN.out
    generalize hXX:s.f b=X at *
    have HXX:Hid _:=hXX
    clear hXX
    have h5w:w.heap.size≤W5.heap.size:=G5.out.size
    rcases (show s.u=true∨s.u=false by cases s.u <;> simp) with hu | hu
    · have hdev:z7u s p (z1s nm)=false:=by unfold z7u;rw[hu];rfl
      rw[hu] at c34
      clear hu CT
      go_wp2_with fail
      refine Calls.mono (mstore H5.out.mem p (z1s nm) X HU.out HX.out) ?_
      rintro e w6 ⟨rfl,l6,a6⟩
      obtain⟨H6',K6'⟩:=H5.out.memory l6 a6
      have H6:Hid _:=H6'
      have K6:Hid _:=K6'
      clear l6 a6 H6' K6'
      rw[hdev,if_neg (by decide)] at HSR2
      rw[hdev,if_neg (by decide)] at HSO
      by_cases hA:askV l.length p (z1s nm)=0
      · rw[if_neg (not_not_intro hA)] at HSR2
        rw[hA]
        go_wp2
        go_ret
        rw[HSR2.out,HXX.out,HSO.out]
        exact⟨fun _=>⟨rfl,s.ev,H6.out,fun k hk=>Or.inl hk⟩,fun k hk=>(by cases hk),(G5.out.mono fun k _ e=>Or.inl e).trans (K6.out.mono fun k _ e=>Or.inr (Or.inl e))⟩
      · rw[if_pos hA] at HSR2
        have hsl:z5z l p (z1s nm) X=l:=by unfold z5z;rw[if_neg hA]
        rw[hsl] at H6
        have hA':=beq_eq_false_iff_ne.2 hA
        generalize askV l.length p (z1s nm)=A at *
        go_wp2_with fail
        refine (CU.out _).mono ?_
        rintro e w7 ⟨g,rfl,g1,g2,g3⟩
        have GF:Hid _:=g2
        have H7:Hid _:=H6.out.below g3
        have K7:Hid _:=K6.out.step g3
        have hs6:W5.heap.size≤w6.heap.size:=K6.out.size
        have hg:w.heap.size≤g:=by omega
        clear g1 g2 g3
        go_wp2
        go_ret
        rw[HSR2.out]
        exact⟨fun h=>(by cases h),fun k' hk=>(by cases hk;exact⟨H7.out,g,rfl,hg,GF.out⟩),(G5.out.mono fun k _ e=>Or.inl e).trans (K7.out.mono fun k _ e=>Or.inr (Or.inl e))⟩
    · rw[hu] at c34
      by_cases h4:z1s nm=4
      · have b4:=beq_iff_eq.2 h4
        cases hd:devB p
        · have hdev:z7u s p (z1s nm)=false:=by unfold z7u;rw[hd];simp
          have CN:Hid (∀ w,Calls Tryz.prog 75 #[.pointer (some ⟨c,0,none⟩),.int .u32 p,.int .u32 X] w fun e w'=>e=.returned (.bool false)∧w'=w):=fun w=>by
            simp only[devB,Bool.or_eq_false_iff,beq_eq_false_iff_ne] at hd
            exact ltell_none c p X hd.1.1.1.1 hd.1.1.1.2 hd.1.1.2 hd.1.2 hd.2 w
          clear hu CT hd h4
          go_wp2_with fail
          refine (CN.out _).mono ?_
          rintro e wq ⟨rfl,hwq⟩
          rw[hwq]
          clear hwq wq CN
          go_wp2_with fail
          refine Calls.mono (mstore H5.out.mem p (z1s nm) X HU.out HX.out) ?_
          rintro e w6 ⟨rfl,l6,a6⟩
          obtain⟨H6',K6'⟩:=H5.out.memory l6 a6
          have H6:Hid _:=H6'
          have K6:Hid _:=K6'
          clear l6 a6 H6' K6'
          rw[hdev,if_neg (by decide)] at HSR2
          rw[hdev,if_neg (by decide)] at HSO
          by_cases hA:askV l.length p (z1s nm)=0
          · rw[if_neg (not_not_intro hA)] at HSR2
            rw[hA]
            go_wp2
            go_ret
            rw[HSR2.out,HXX.out,HSO.out]
            exact⟨fun _=>⟨rfl,s.ev,H6.out,fun k hk=>Or.inl hk⟩,fun k hk=>(by cases hk),(G5.out.mono fun k _ e=>Or.inl e).trans (K6.out.mono fun k _ e=>Or.inr (Or.inl e))⟩
          · rw[if_pos hA] at HSR2
            have hsl:z5z l p (z1s nm) X=l:=by unfold z5z;rw[if_neg hA]
            rw[hsl] at H6
            have hA':=beq_eq_false_iff_ne.2 hA
            generalize askV l.length p (z1s nm)=A at *
            go_wp2_with fail
            refine (CU.out _).mono ?_
            rintro e w7 ⟨g,rfl,g1,g2,g3⟩
            have GF:Hid _:=g2
            have H7:Hid _:=H6.out.below g3
            have K7:Hid _:=K6.out.step g3
            have hs6:W5.heap.size≤w6.heap.size:=K6.out.size
            have hg:w.heap.size≤g:=by omega
            clear g1 g2 g3
            go_wp2
            go_ret
            rw[HSR2.out]
            exact⟨fun h=>(by cases h),fun k' hk=>(by cases hk;exact⟨H7.out,g,rfl,hg,GF.out⟩),(G5.out.mono fun k _ e=>Or.inl e).trans (K7.out.mono fun k _ e=>Or.inr (Or.inl e))⟩
        · have hdev:z7u s p (z1s nm)=true:=by unfold z7u;rw[hd,hu,b4];rfl
          rw[hd] at CT
          rw[hdev,if_pos rfl] at HSR2
          rw[hdev,if_pos rfl] at HSO
          clear hu hd h4
          go_wp2_with fail
          refine Calls.mono CT.out ?_
          intro e w6 q
          obtain rfl:=q.is
          have Q:Hid _:=q
          clear q CT
          go_wp2
          go_ret
          rw[HSR2.out,HXX.out,HSO.out]
          obtain⟨ev,q1,q2⟩:=Q.out.core
          exact⟨fun _=>⟨rfl,ev,q1,fun k hk=>(q2 k hk).elim Or.inl (fun e=>Or.inr (Nat.le_trans h5w e))⟩,fun k hk=>(by cases hk),(G5.out.mono fun k _ e=>Or.inl e).trans (Q.out.chg.mono fun k _ e=>e.elim Or.inl (fun e=>Or.inr (Or.inr e)))⟩
      · have b4:=beq_eq_false_iff_ne.2 h4
        have hdev:z7u s p (z1s nm)=false:=by unfold z7u;rw[b4];simp
        clear hu CT h4
        go_wp2_with fail
        refine Calls.mono (mstore H5.out.mem p (z1s nm) X HU.out HX.out) ?_
        rintro e w6 ⟨rfl,l6,a6⟩
        obtain⟨H6',K6'⟩:=H5.out.memory l6 a6
        have H6:Hid _:=H6'
        have K6:Hid _:=K6'
        clear l6 a6 H6' K6'
        rw[hdev,if_neg (by decide)] at HSR2
        rw[hdev,if_neg (by decide)] at HSO
        by_cases hA:askV l.length p (z1s nm)=0
        · rw[if_neg (not_not_intro hA)] at HSR2
          rw[hA]
          go_wp2
          go_ret
          rw[HSR2.out,HXX.out,HSO.out]
          exact⟨fun _=>⟨rfl,s.ev,H6.out,fun k hk=>Or.inl hk⟩,fun k hk=>(by cases hk),(G5.out.mono fun k _ e=>Or.inl e).trans (K6.out.mono fun k _ e=>Or.inr (Or.inl e))⟩
        · rw[if_pos hA] at HSR2
          have hsl:z5z l p (z1s nm) X=l:=by unfold z5z;rw[if_neg hA]
          rw[hsl] at H6
          have hA':=beq_eq_false_iff_ne.2 hA
          generalize askV l.length p (z1s nm)=A at *
          go_wp2_with fail
          refine (CU.out _).mono ?_
          rintro e w7 ⟨g,rfl,g1,g2,g3⟩
          have GF:Hid _:=g2
          have H7:Hid _:=H6.out.below g3
          have K7:Hid _:=K6.out.step g3
          have hs6:W5.heap.size≤w6.heap.size:=K6.out.size
          have hg:w.heap.size≤g:=by omega
          clear g1 g2 g3
          go_wp2
          go_ret
          rw[HSR2.out]
          exact⟨fun h=>(by cases h),fun k' hk=>(by cases hk;exact⟨H7.out,g,rfl,hg,GF.out⟩),(G5.out.mono fun k _ e=>Or.inl e).trans (K7.out.mono fun k _ e=>Or.inr (Or.inl e))⟩
end Go.Proofs.YtilcoimelnpkeaaGreatDoor
