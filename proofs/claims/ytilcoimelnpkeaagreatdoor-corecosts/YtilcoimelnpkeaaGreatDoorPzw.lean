/-
  Contracts of functions that the statement reaches, and what they are made of, callees first.
-/
import Derived.Test.YtilcoimelnpkeaaGreatDoorPzf
import Derived.Test.YtilcoimelnpkeaaGreatDoorPzl
import Derived.Test.YtilcoimelnpkeaaGreatDoorPzm
import Derived.Test.YtilcoimelnpkeaaGreatDoorPzs
set_option maxRecDepth 100000
set_option maxHeartbeats 8000000
namespace Go.Proofs.YtilcoimelnpkeaaGreatDoor
open Go.RowKit
structure FreeOf (nm:List UInt8) (a:Nat) (m:Int) (s:CS) (l:List Int):Prop where
 u:s.u=false
 set:s.set=false
 at':nm∈ldst→(s.f a+m%4294967296)%4294967296=0∨(s.f a+m%4294967296)%4294967296=4∨(s.f a+m%4294967296)%4294967296=8∨(s.f a+m%4294967296)%4294967296=12
 len:l.length=5
def CostOf (nm:List UInt8) (d a b:Nat) (m ct:Int):Prop:=0<ct∧ct≤20∧∀ (s:CS) (l:List Int) (es:List Ev) (x:Int),FreeOf nm a m s l→(insC s l es ⟨nm,d,a,b,m⟩ x).1.t=s.t+ct
theorem tab_cost:∀ q∈z6q,0<q.2.2.1∧q.2.2.1≤20:=by decide +kernel
theorem lets_free {s:CS} (h:s.u=false) (p n k:Int):z5m s p n k=true:=by unfold z5m;rw[h];rfl
theorem ask_free {p n:Int} (hp:p=0∨p=4∨p=8∨p=12) (hn:n=1∨n=2∨n=4):askV 5 p n=0∧p%n=0:=by
 rcases hp with rfl | rfl | rfl | rfl <;> rcases hn with rfl | rfl | rfl <;> decide
theorem load_cost {s:CS} {l:List Int} (hu:s.u=false) (hl:l.length=5) (d:Nat) {p n:Int} (hp:p=0∨p=4∨p=8∨p=12) (hn:n=1∨n=2∨n=4) (sg:Bool):(z3m s l d p n sg).t=s.t+2:=by
 have h:=(ask_free hp hn).1
 unfold z3m
 rw[hl,h,if_neg (by decide),if_neg (fun e=>e.elim (fun q=>q rfl) (fun q=>by rw[lets_free hu] at q;cases q))]
 rfl
theorem store_cost {s:CS} {l:List Int} (es:List Ev) (hu:s.u=false) (hl:l.length=5) {p n:Int} (hp:p=0∨p=4∨p=8∨p=12) (hn:n=1∨n=2∨n=4) (x:Int):(z4z s l es p n x).1.t=s.t+2:=by
 obtain⟨h,h2⟩:=ask_free hp hn
 have hd:∀ q:Int,1073741824≤q→¬(s.u=false∧n=4∧p=q):=fun q hq e=>by
  have:=e.2.2
  omega
 unfold z4z
 rw[if_neg (not_not_intro h2),if_neg (hd _ (by decide)),if_neg (hd _ (by decide)),if_neg (hd _ (by decide)),if_neg (hd _ (by decide)),if_neg (hd _ (by decide)),if_neg (by rw[lets_free hu];decide),hl,if_neg (not_not_intro h)]
 rfl
theorem csr_cost (s:CS) (k d:Nat) (a y x:Int):(csrS s k d a 832 y x).t=s.t+1:=by
 unfold csrS
 rw[if_neg (by decide)]
 split
 ·rw[if_neg (by decide)];rfl
 ·rfl
theorem cost_of {nm:List UInt8} {d a b:Nat} {m:Int} (hk:(nm,z0q nm)∈z3w) (hC:(z0q nm).k=67→m=832):∃ ct,CostOf nm d a b m ct:=by
 rcases forms_split _ hk with ho | ho
 ·obtain⟨q,hq,e⟩:=tab_mem ho
  obtain⟨h1,h2⟩:=tab_cost q hq
  refine⟨q.2.2.1,h1,h2,fun s l es x _=>?_⟩
  simp only at e
  rw[← e,insC_tab q hq]
  rfl
 ·rcases others_is ho with e | e | e | e | e | e | e | e | e | e | e | e | e | e | e | e | e | e | e | e | e | e | e | e | e | e <;> (simp only at e;subst e)
  ·exact⟨1,by decide,by decide,fun s l es x _=>by rw[insC_lui];rfl⟩
  ·exact⟨1,by decide,by decide,fun s l es x _=>by rw[insC_auipc];rfl⟩
  ·exact⟨2,by decide,by decide,fun s l es x _=>by rw[insC_jal];rfl⟩
  ·exact⟨2,by decide,by decide,fun s l es x _=>by rw[insC_jalr];rfl⟩
  ·exact⟨2,by decide,by decide,fun s l es x _=>by rw[insC_beq];rfl⟩
  ·exact⟨2,by decide,by decide,fun s l es x _=>by rw[insC_bne];rfl⟩
  ·exact⟨2,by decide,by decide,fun s l es x _=>by rw[insC_blt];rfl⟩
  ·exact⟨2,by decide,by decide,fun s l es x _=>by rw[insC_bge];rfl⟩
  ·exact⟨2,by decide,by decide,fun s l es x _=>by rw[insC_bltu];rfl⟩
  ·exact⟨2,by decide,by decide,fun s l es x _=>by rw[insC_bgeu];rfl⟩
  ·exact⟨2,by decide,by decide,fun s l es x h=>by rw[insC_lb];exact load_cost h.u h.len d (h.at' (by decide)) (by decide) true⟩
  ·exact⟨2,by decide,by decide,fun s l es x h=>by rw[insC_lh];exact load_cost h.u h.len d (h.at' (by decide)) (by decide) true⟩
  ·exact⟨2,by decide,by decide,fun s l es x h=>by rw[insC_lw];exact load_cost h.u h.len d (h.at' (by decide)) (by decide) true⟩
  ·exact⟨2,by decide,by decide,fun s l es x h=>by rw[insC_lbu];exact load_cost h.u h.len d (h.at' (by decide)) (by decide) false⟩
  ·exact⟨2,by decide,by decide,fun s l es x h=>by rw[insC_lhu];exact load_cost h.u h.len d (h.at' (by decide)) (by decide) false⟩
  ·exact⟨2,by decide,by decide,fun s l es x h=>by rw[insC_sb];exact store_cost es h.u h.len (h.at' (by decide)) (by decide) _⟩
  ·exact⟨2,by decide,by decide,fun s l es x h=>by rw[insC_sh];exact store_cost es h.u h.len (h.at' (by decide)) (by decide) _⟩
  ·exact⟨2,by decide,by decide,fun s l es x h=>by rw[insC_sw];exact store_cost es h.u h.len (h.at' (by decide)) (by decide) _⟩
  ·obtain rfl:=hC rfl
   exact⟨1,by decide,by decide,fun s l es x _=>by rw[insC_csrrw];exact csr_cost s 0 d a (s.f a) x⟩
  ·obtain rfl:=hC rfl
   exact⟨1,by decide,by decide,fun s l es x _=>by rw[insC_csrrs];exact csr_cost s 1 d a (s.f a) x⟩
  ·obtain rfl:=hC rfl
   exact⟨1,by decide,by decide,fun s l es x _=>by rw[insC_csrrc];exact csr_cost s 2 d a (s.f a) x⟩
  ·exact⟨4,by decide,by decide,fun s l es x _=>by rw[insC_mret];rfl⟩
  ·exact⟨1,by decide,by decide,fun s l es x h=>by
    rw[insC_wfi]
    show (wfiC s).t=_
    unfold wfiC
    rw[h.set,if_neg (by simp)]
    rfl⟩
  ·exact⟨1,by decide,by decide,fun s l es x _=>by rw[insC_fence];rfl⟩
  ·exact⟨4,by decide,by decide,fun s l es x _=>by rw[insC_ecall];rfl⟩
  ·exact⟨4,by decide,by decide,fun s l es x _=>by rw[insC_ebreak];rfl⟩
theorem cost_plain {nm:List UInt8} {d a b:Nat} {m ct:Int} (hct:CostOf nm d a b m ct) (hmay:mayV ⟨nm,d,a,b,m⟩=true) {s:CS} {l:List Int} (hF:FreeOf nm a m s l) (hs:s.stop=false) (hp:s.f 32=0) (hw:z0p l 0=putN ⟨nm,d,a,b,m⟩) (hu:∀ j,U32 (z0p l j)) (late:List Int) (es:List Ev) :
  (z3i late s l es).1.t=s.t+ct∧(z3i late s l es).1.f 0=0:=by
 have e:=step_ins (late:=late) (s:=s) (l:=l) (es:=es) (k:=0) hs (timer_off hF.set) hu (by rw[hp];rfl) (by rw[hF.len];decide) (lets_free hF.u _ _ _) (by rw[hw];exact get_putN hmay) (by rw[hF.u];rfl)
 rw[e]
 refine⟨?_,rfl⟩
 exact hct.2.2 (z2t s) l es _ ⟨hF.u,hF.set,hF.at',hF.len⟩
def immOf (k m:Int):Int:=if k=67 then 832 else if k=73∨k=115 then 0 else m
theorem ldst_kind:∀ n∈ldst,(z0q n).k=73∨(z0q n).k=115:=by decide +kernel
theorem may_imm {nm:List UInt8} {d a b m:Int} (h:mayV ⟨nm,d,a,b,m⟩=true):mayV ⟨nm,d,a,b,immOf (z0q nm).k m⟩=true:=by
 unfold mayV mayF at h ⊢
 simp only at h ⊢
 unfold immOf
 rcases kinds nm with e | e | e | e | e | e | e | e | e | e <;> rw[e] at h ⊢ <;> simp[inV] at h ⊢ <;> simp[h,show regV 0=true from rfl]
structure CostIns (wh d a b m:Int) (nm:List UInt8) (dn an bn:Nat) (ct:Int):Prop where
 op:(opAt (wh%53).toNat).toList=nm
 hd:(insN wh d a b m).d=dn
 ha:(insN wh d a b m).a=an
 hb:(insN wh d a b m).b=bn
 low:an<8
 may:mayV ⟨nm,dn,an,bn,immOf (z0q nm).k (insN wh d a b m).m⟩=true
 cost:CostOf nm dn an bn (immOf (z0q nm).k (insN wh d a b m).m) ct
 zero:nm∈ldst→immOf (z0q nm).k (insN wh d a b m).m=0
theorem costs_ins (wh d a b m:Int) (ha:0≤a∧a<8):∃ nm dn an bn ct,CostIns wh d a b m nm dn an bn ct:=by
 have hmay:=insN_may wh d a b m
 have hk:=z8s (get_putN hmay)
 obtain⟨nm,hnm⟩:∃ nm,nm=(opAt (wh%53).toNat).toList:=⟨_,rfl⟩
 have e0:(insN wh d a b m).op=nm:=hnm.symm
 have d0:0≤(insN wh d a b m).d:=by unfold insN inqD;simp only;split <;> omega
 have a0:0≤(insN wh d a b m).a∧(insN wh d a b m).a<8:=by unfold insN inqA;simp only;split <;> omega
 have b0:0≤(insN wh d a b m).b:=by unfold insN inqB;simp only;split <;> omega
 obtain⟨dn,hdn⟩:=Int.eq_ofNat_of_zero_le d0
 obtain⟨an,han⟩:=Int.eq_ofNat_of_zero_le a0.1
 obtain⟨bn,hbn⟩:=Int.eq_ofNat_of_zero_le b0
 have hm2:mayV ⟨nm,dn,an,bn,(insN wh d a b m).m⟩=true:=by rw[← hdn,← han,← hbn,← e0];exact hmay
 rw[e0] at hk
 obtain⟨ct,hct⟩:=cost_of (d:=dn) (a:=an) (b:=bn) (m:=immOf (z0q nm).k (insN wh d a b m).m) hk (fun e=>by unfold immOf;rw[if_pos e])
 exact⟨nm,dn,an,bn,ct,hnm.symm,hdn,han,hbn,by have:=a0.2;omega,may_imm hm2,hct,fun h=>by
  unfold immOf
  rcases ldst_kind nm h with e | e <;> rw[e] <;> rfl⟩
def lowF (f:Nat→Int) (k:Nat) (i:Nat):Int:=if i<k then f i%4*4 else f i
theorem lowF_zero (f:Nat→Int):lowF f 0=f:=by
 funext i
 unfold lowF
 rw[if_neg (Nat.not_lt_zero i)]
theorem lowF_at (f:Nat→Int) (k:Nat):lowF f k k=f k:=by unfold lowF;rw[if_neg (Nat.lt_irrefl k)]
theorem lowF_next (f:Nat→Int) (k:Nat):set1 (lowF f k) k (f k%4*4)=lowF f (k+1):=by
 funext i
 unfold set1 lowF
 by_cases h:i=k
 ·subst h;rw[if_pos rfl,if_pos (Nat.lt_succ_self _)]
 ·rw[if_neg h]
  by_cases h2:i<k
  ·rw[if_pos h2,if_pos (by omega)]
  ·rw[if_neg h2,if_neg (by omega)]
theorem lowF_u {f:Nat→Int} (h:∀ i,U32 (f i)) (k i:Nat):U32 (lowF f k i):=by
 unfold lowF
 split
 ·exact⟨by omega,by omega⟩
 ·exact h i
structure TwoSt (w:World) (r:Nat) (f1 f2:Nat→Int) (k:Nat) (wr:World):Prop where
 one:wr.heap[r]?=some (.cells (z0c (lowF f1 k) false) 37)
 two:wr.heap[r+1]?=some (.cells (z0c (lowF f2 k) false) 37)
 bel:Below w.heap.size w wr
structure Pair (Is:z6d) (w0 w:World) (p1 p2:Nat) (F1 F2:Nat→Prop) (s1 s2:CS) (l1 l2:List Int) (e1 e2:List Ev):Prop where
 one:Is w p1 F1 s1 l1 e1 []
 two:Is w p2 F2 s2 l2 e2 []
 apart:∀ k,F1 k→¬F2 k
 lo1:∀ k,F1 k→w0.heap.size≤k
 lo2:∀ k,F2 k→w0.heap.size≤k
 bel:Below w0.heap.size w0 w
theorem below_chg {w0 w w':World} {O:Nat→Prop} (h:Below w0.heap.size w0 w) (c:Chg O w w') (ho:∀ k,O k→w0.heap.size≤k):Below w0.heap.size w0 w':=
 ⟨c.os.trans h.os,c.tape.trans h.tape,c.output.trans h.output,Nat.le_trans h.size c.size,fun k hk=>(c.block k (Nat.lt_of_lt_of_le hk h.size) (fun e=>by have:=ho k e;omega)).trans (h.block k hk)⟩
theorem Pair.below {Is:z6d} (K:CoreK Is) {w0 w w':World} {p1 p2:Nat} {F1 F2:Nat→Prop} {s1 s2:CS} {l1 l2:List Int} {e1 e2:List Ev} (h:Pair Is w0 w p1 p2 F1 F2 s1 s2 l1 l2 e1 e2) (hb:Below w.heap.size w w'):Pair Is w0 w' p1 p2 F1 F2 s1 s2 l1 l2 e1 e2:=
 ⟨K.below h.one hb,K.below h.two hb,h.apart,h.lo1,h.lo2,z0e h.bel hb⟩
theorem Pair.first {Is:z6d} (K:CoreK Is) {w0 w w':World} {p1 p2:Nat} {F1 F2 F1':Nat→Prop} {s1 s2 s1':CS} {l1 l2 l1':List Int} {e1 e2 e1':List Ev} (h:Pair Is w0 w p1 p2 F1 F2 s1 s2 l1 l2 e1 e2) (hi:Is w' p1 F1' s1' l1' e1' []) (c:Chg F1 w w') (hF:∀ k,F1' k→F1 k∨w.heap.size≤k):Pair Is w0 w' p1 p2 F1' F2 s1' s2 l1' l2 e1' e2:=
 ⟨hi,K.keep h.two c h.apart,fun k h1 h2=>(hF k h1).elim (fun e=>h.apart k e h2) (fun e=>by have:=K.lt h.two k h2;omega),fun k h1=>(hF k h1).elim (h.lo1 k) (fun e=>Nat.le_trans h.bel.size e),h.lo2,below_chg h.bel c h.lo1⟩
theorem Pair.second {Is:z6d} (K:CoreK Is) {w0 w w':World} {p1 p2:Nat} {F1 F2 F2':Nat→Prop} {s1 s2 s2':CS} {l1 l2 l2':List Int} {e1 e2 e2':List Ev} (h:Pair Is w0 w p1 p2 F1 F2 s1 s2 l1 l2 e1 e2) (hi:Is w' p2 F2' s2' l2' e2' []) (c:Chg F2 w w') (hF:∀ k,F2' k→F2 k∨w.heap.size≤k):Pair Is w0 w' p1 p2 F1 F2' s1 s2' l1 l2' e1 e2':=
 ⟨K.keep h.one c (fun k h2 h1=>h.apart k h1 h2),hi,fun k h1 h2=>(hF k h2).elim (h.apart k h1) (fun e=>by have:=K.lt h.one k h1;omega),h.lo1,fun k h2=>(hF k h2).elim (h.lo2 k) (fun e=>Nat.le_trans h.bel.size e),below_chg h.bel c h.lo2⟩
def putS (f:Nat→Int):CS:={ newC undef undef with f:=set1 (set1 (lowF f 8) 32 0) 0 0,u:=false }
theorem putS_u {f:Nat→Int} (h:∀ i,U32 (f i)) (i:Nat):U32 ((putS f).f i):=z4m (z4m (lowF_u h 8) 32 ⟨by decide,by decide⟩) 0 ⟨by decide,by decide⟩ i
theorem go_put {f:Nat→Int} (h:∀ i,U32 (f i)) {l:List Int} (hu:∀ i,U32 (z0p l i)) (hl:l.length=5):Going [] (putS f) l []:=
 ⟨⟨putS_u h,Int.le_refl 0,(by decide:(0:Int)≤576460752303423488),Int.le_refl 0,(by decide:(0:Int)≤576460752303423488+8589934592),(⟨by decide,by decide⟩:U32 0),(⟨by decide,by decide⟩:U32 0),by decide⟩,hu,by omega,by omega,Int.le_refl 0,(by decide:(0:Int)≤1000000),(by decide:(0:Int)≤1099511627776)⟩
theorem cost_eq {wh d a b m:Int} {nm:List UInt8} {dn an bn:Nat} {ct:Int} (hI:CostIns wh d a b m nm dn an bn ct) (f:Nat→Int) (rest:List Int) (hr:rest.length=4) (hu:∀ j,U32 (z0p (putN ⟨nm,dn,an,bn,immOf (z0q nm).k (insN wh d a b m).m⟩ :: rest) j)) :
  (z3i [] (putS f) (putN ⟨nm,dn,an,bn,immOf (z0q nm).k (insN wh d a b m).m⟩ :: rest) []).1.t=ct∧(z3i [] (putS f) (putN ⟨nm,dn,an,bn,immOf (z0q nm).k (insN wh d a b m).m⟩ :: rest) []).1.f 0=0:=by
 have hF:FreeOf nm an (immOf (z0q nm).k (insN wh d a b m).m) (putS f) (putN ⟨nm,dn,an,bn,immOf (z0q nm).k (insN wh d a b m).m⟩ :: rest):=⟨rfl,rfl,fun h=>by
  rw[hI.zero h]
  have h8:=hI.low
  have e:(putS f).f an=if an=0 then 0 else f an%4*4:=by
   show set1 (set1 (lowF f 8) 32 0) 0 0 an=_
   unfold set1 lowF
   by_cases h0:an=0
   ·rw[if_pos h0,if_pos h0]
   ·rw[if_neg h0,if_neg h0,if_neg (by omega),if_pos h8]
  rw[e]
  split <;> omega,by simp[hr]⟩
 have:=cost_plain hI.cost hI.may hF rfl rfl rfl hu [] []
 refine⟨?_,this.2⟩
 rw[this.1]
 show (0:Int)+ct=ct
 omega
theorem field_X (f:Nat→Int) (u:Bool) (w:World):(Instr.field 37 (.agg (z0c f u)) 0).run Tryz.prog w=.ok (.agg ((z0c f u).extract 0 32)) w:=by kernel_rfl
theorem index_X (f:Nat→Int) (u:Bool) (w:World):(Instr.index 34 (.agg ((z0c f u).extract 0 32)) (.int .i64 0)).run Tryz.prog w=.ok (.int .u32 (f 0)) w:=by kernel_rfl
theorem coreCosts_way {Is:z6d} (K:CoreK Is) (wh d a b m:Int) (hwh:0≤wh∧wh≤255) (hd:0≤d∧d≤255) (ha:0≤a∧a≤255) (hb:0≤b∧b≤255) (hm:-2147483648≤m∧m≤2147483647)
  (a1:Option Addr) (n1 cap1:Nat) (zs1:List Int) (a2:Option Addr) (n2 cap2:Nat) (zs2:List Int) (w:World) (b1 off1 b2 off2:Nat)
  (hm1:n1≤maxLen) (ha1:0<n1→a1=some ⟨b1,off1,none⟩∧b1<w.heap.size) (hc1:∀ i,i<n1→w.cell? ⟨b1,off1+i,none⟩=some (.int .u32 (zs1.getD i 0))) (hu1:∀ z∈zs1,U32 z)
  (hm2:n2≤maxLen) (ha2:0<n2→a2=some ⟨b2,off2,none⟩∧b2<w.heap.size) (hc2:∀ i,i<n2→w.cell? ⟨b2,off2+i,none⟩=some (.int .u32 (zs2.getD i 0))) (hu2:∀ z∈zs2,U32 z) :
  Calls Tryz.prog 3 #[.int .u8 wh,.int .u8 d,.int .u8 a,.int .u8 b,.int .i32 m,.slice a1 n1 cap1,.slice a2 n2 cap2] w fun e w'=>e=.returned (.bool true)∧Below w.heap.size w w':=by
 have HK:Hid _:=K
 have ta:a.tmod 8=a%8:=Int.tmod_eq_emod_of_nonneg ha.1
 have tb:b.tmod 8=b%8:=Int.tmod_eq_emod_of_nonneg hb.1
 have CI:Hid _:=rIns wh d (a%8) (b%8) m hwh hd (by omega) (by omega) hm
 have CR1:Hid (∀ W,Below w.heap.size w W→Calls Tryz.prog 14 #[.slice a1 n1 cap1,.bool false] W fun e w'=>e=.returned (.agg (z0c (regsF zs1 n1) false))∧Below W.heap.size W w'):=fun W hB=>
  lregs a1 b1 off1 n1 cap1 zs1 false W hm1 (fun h=>⟨(ha1 h).1,Nat.lt_of_lt_of_le (ha1 h).2 hB.size⟩) (fun i hi=>by rw[hB.cell (p:=⟨b1,off1+i,none⟩) (ha1 (by omega)).2];exact hc1 i hi)
 have CR2:Hid (∀ W,Below w.heap.size w W→Calls Tryz.prog 14 #[.slice a2 n2 cap2,.bool false] W fun e w'=>e=.returned (.agg (z0c (regsF zs2 n2) false))∧Below W.heap.size W w'):=fun W hB=>
  lregs a2 b2 off2 n2 cap2 zs2 false W hm2 (fun h=>⟨(ha2 h).1,Nat.lt_of_lt_of_le (ha2 h).2 hB.size⟩) (fun i hi=>by rw[hB.cell (p:=⟨b2,off2+i,none⟩) (ha2 (by omega)).2];exact hc2 i hi)
 have HF1:Hid (∀ i,U32 (regsF zs1 n1 i)):=fun i=>regsP_u (wat_u hu1 n1) 8 i
 have HF2:Hid (∀ i,U32 (regsF zs2 n2 i)):=fun i=>regsP_u (wat_u hu2 n2) 8 i
 obtain⟨nm,dn,an,bn,ct,hI⟩:=costs_ins wh d (a%8) (b%8) m ⟨by omega,by omega⟩
 have HI:Hid _:=hI
 have CK:Hid _:=fun w=>rKindC (opAt (wh%53).toNat) (z0q nm).k (z0q nm).o (z0q nm).g (z0q nm).f (by rw[hI.op]) w
 rw[hI.hd,hI.ha,hI.hb] at CI
 have CW:Hid _:=kWord (opAt (wh%53).toNat) dn an bn (immOf (z0q nm).k (insN wh d (a%8) (b%8) m).m)
 rw[hI.op] at CW
 have COST:Hid _:=fun f rest hr hu=>cost_eq hI f rest hr hu
 have HCT:Hid _:=hI.cost.1
 have HX:Hid _:=putN_u ⟨nm,dn,an,bn,immOf (z0q nm).k (insN wh d (a%8) (b%8) m).m⟩
 obtain⟨fs,hfs⟩:=z3f
 have HS:Hid _:=hfs
 have hcase:∃ mm,mm=immOf (z0q nm).k (insN wh d (a%8) (b%8) m).m∧(((((z0q nm).k==67)=true)∧mm=832)∨(((z0q nm).k==67)=false∧((z0q nm).k==73)=true∧mm=0)∨(((z0q nm).k==67)=false∧((z0q nm).k==73)=false∧((z0q nm).k==115)=true∧mm=0)∨(((z0q nm).k==67)=false∧((z0q nm).k==73)=false∧((z0q nm).k==115)=false∧mm=(insN wh d (a%8) (b%8) m).m)):=by
  refine⟨_,rfl,?_⟩
  unfold immOf
  by_cases h1:(z0q nm).k=67
  ·simp[h1]
  ·by_cases h2:(z0q nm).k=73
   ·simp[h2]
   ·by_cases h3:(z0q nm).k=115
    ·simp[h3]
    ·simp[h1,h2,h3]
 obtain⟨mm,hmm,hcase⟩:=hcase
 rw[← hmm] at CW HX COST
 have HMM:Hid _:=hmm
 clear K hwh hd ha hb hm hm1 ha1 hc1 hu1 hm2 ha2 hc2 hu2 hfs hI hmm
 generalize regsF zs1 n1=f1 at *
 generalize regsF zs2 n2=f2 at *
 generalize hsn:opAt (wh%53).toNat=sn at *
 have HSN:Hid _:=hsn
 clear hsn
 generalize hmi:(insN wh d (a%8) (b%8) m).m=mi at *
 have HMI:Hid _:=hmi
 clear hmi
 generalize hkk:(z0q nm).k=kk at *
 have HKK:Hid _:=hkk
 clear hkk
 generalize putN ⟨nm,dn,an,bn,mm⟩=x at *
 go_enter Tryz.func3,Tryz.ntmps3
 go_wp2_with fail
 refine (CI.out _).mono ?_
 rintro e w1 ⟨rfl,b1x⟩
 have B2:Hid (Below w.heap.size w (w1.alloc (.cells #[.string sn,.int .i64 dn,.int .i64 an,.int .i64 bn,.int .i32 mi] 24))):=b1x.alloc b1x.size _
 have I2:=z0g w1 (.cells #[.string sn,.int .i64 dn,.int .i64 an,.int .i64 bn,.int .i32 mi] 24)
 have S2:w.heap.size≤w1.heap.size:=b1x.size
 clear b1x CI
 go_wp2_with fail
 generalize w1.alloc (.cells #[.string sn,.int .i64 dn,.int .i64 an,.int .i64 bn,.int .i32 mi] 24)=w2 at *
 generalize w1.heap.size=ib at *
 refine (CK.out _).mono ?_
 rintro e w3 ⟨rfl,b3⟩
 have B3:Hid _:=z0e B2.out b3
 have I3:=z0f I2 b3
 clear b3 I2 B2 CK
 obtain⟨ic,ifr,hw3⟩:=z0a I3
 have i0:=ic 0 (.string sn) rfl
 have i1:=ic 1 (.int .i64 dn) rfl
 have i2:=ic 2 (.int .i64 an) rfl
 have i3:=ic 3 (.int .i64 bn) rfl
 have i4:=ic 4 (.int .i32 mi) rfl
 have f4:=ifr 4
 clear ic ifr
 have XI:Hid (∀ v:Int,(w3.setCell ⟨ib,4,none⟩ (.int .i32 v)).heap[ib]?=some (.cells #[.string sn,.int .i64 dn,.int .i64 an,.int .i64 bn,.int .i32 v] 24)):=fun v=>z1p _ I3
 have XB:Hid (∀ v:Int,Below w.heap.size w (w3.setCell ⟨ib,4,none⟩ (.int .i32 v))):=fun v=>B3.out.setCell S2 _
 rcases hcase with ⟨k1,rfl⟩ | ⟨k1,k2,rfl⟩ | ⟨k1,k2,k3,rfl⟩ | ⟨k1,k2,k3,rfl⟩
 ·go_wp2_with fail
  have IW:=XI.out 832
  have BW:Hid _:=XB.out 832
  clear XI XB I3 B3 i0 i1 i2 i3 i4 f4
  generalize w3.setCell ⟨ib,4,none⟩ (.int .i32 832)=W at *
  clear hw3 w3
  refine (CW.out _).mono ?_
  rintro e w4 ⟨rfl,b4⟩
  have I4:=z0f IW b4
  have B4:Hid _:=z0e BW.out b4
  clear b4 IW BW
  go_wp2_with fail
  have HC5:Hid (∀ i,i<[x,1,2,3,4].length→(w4.alloc (.cells #[.int .u32 x,.int .u32 1,.int .u32 2,.int .u32 3,.int .u32 4] 31)).cell? ⟨w4.heap.size,0+i,none⟩=some (.int .u32 (z0p [x,1,2,3,4] i))):=fun i hi=>by
   have hi:i<5:=hi
   refine (z0a (z0g w4 _)).1 _ _ ?_
   rcases (by omega:i=0∨i=1∨i=2∨i=3∨i=4) with rfl | rfl | rfl | rfl | rfl <;> rfl
  have HU5:Hid (∀ i,U32 (z0p [x,1,2,3,4] i)):=word_u fun z hz=>by
   simp only[List.mem_cons,List.not_mem_nil,or_false] at hz
   rcases hz with rfl | rfl | rfl | rfl | rfl
   all_goals first | exact HX.out | exact⟨by decide,by decide⟩
  have HA5:Hid (Below w4.heap.size w4 (w4.alloc (.cells #[.int .u32 x,.int .u32 1,.int .u32 2,.int .u32 3,.int .u32 4] 31))):=(Below.refl _ _).alloc (Nat.le_refl _) _
  have HL5:w4.heap.size<(w4.alloc (.cells #[.int .u32 x,.int .u32 1,.int .u32 2,.int .u32 3,.int .u32 4] 31)).heap.size:=by rw[World.size_alloc];omega
  have HCN5:Hid _:=HK.out.new w4.heap.size 0 5 [x,1,2,3,4] (.slice none 0 0) [] _ (by simp) (by simp) HU5.out HL5 HC5.out (no_late _) (by decide)
  generalize w4.alloc (.cells #[.int .u32 x,.int .u32 1,.int .u32 2,.int .u32 3,.int .u32 4] 31)=V5 at *
  clear HL5 HC5
  refine Calls.mono HCN5.out ?_
  rintro e w6 ⟨p1,F1,rfl,h1,b6,q1⟩
  have B6:Hid _:=z0e (z0e B4.out HA5.out) b6
  have I6:=z0f (z0f I4 HA5.out) b6
  have H1:Hid _:=h1
  have A1:Hid (∀ k,F1 k→w.heap.size≤k):=fun k hk=>Nat.le_trans (z0e B4.out HA5.out).size (q1 k hk)
  clear HCN5 HA5 b6 h1 q1 I4 B4
  obtain⟨ic,_,_⟩:=z0a I6
  have i0:=ic 0 (.string sn) rfl
  have i1:=ic 1 (.int .i64 dn) rfl
  have i2:=ic 2 (.int .i64 an) rfl
  have i3:=ic 3 (.int .i64 bn) rfl
  have i4:=ic 4 (.int .i32 832) rfl
  clear ic
  go_wp2_with fail
  refine (CW.out _).mono ?_
  rintro e w7 ⟨rfl,b7⟩
  have B7:Hid _:=z0e B6.out b7
  have H7:Hid _:=HK.out.below H1.out b7
  clear b7 B6 H1 I6 i0 i1 i2 i3 i4
  go_wp2_with fail
  have HC8:Hid (∀ i,i<[x,9,8,7,6].length→(w7.alloc (.cells #[.int .u32 x,.int .u32 9,.int .u32 8,.int .u32 7,.int .u32 6] 31)).cell? ⟨w7.heap.size,0+i,none⟩=some (.int .u32 (z0p [x,9,8,7,6] i))):=fun i hi=>by
   have hi:i<5:=hi
   refine (z0a (z0g w7 _)).1 _ _ ?_
   rcases (by omega:i=0∨i=1∨i=2∨i=3∨i=4) with rfl | rfl | rfl | rfl | rfl <;> rfl
  have HU8:Hid (∀ i,U32 (z0p [x,9,8,7,6] i)):=word_u fun z hz=>by
   simp only[List.mem_cons,List.not_mem_nil,or_false] at hz
   rcases hz with rfl | rfl | rfl | rfl | rfl
   all_goals first | exact HX.out | exact⟨by decide,by decide⟩
  have HA8:Hid (Below w7.heap.size w7 (w7.alloc (.cells #[.int .u32 x,.int .u32 9,.int .u32 8,.int .u32 7,.int .u32 6] 31))):=(Below.refl _ _).alloc (Nat.le_refl _) _
  have HL8:w7.heap.size<(w7.alloc (.cells #[.int .u32 x,.int .u32 9,.int .u32 8,.int .u32 7,.int .u32 6] 31)).heap.size:=by rw[World.size_alloc];omega
  have HCN8:Hid _:=HK.out.new w7.heap.size 0 5 [x,9,8,7,6] (.slice none 0 0) [] _ (by simp) (by simp) HU8.out HL8 HC8.out (no_late _) (by decide)
  generalize w7.alloc (.cells #[.int .u32 x,.int .u32 9,.int .u32 8,.int .u32 7,.int .u32 6] 31)=V8 at *
  clear HL8 HC8
  refine Calls.mono HCN8.out ?_
  rintro e w9 ⟨p2,F2,rfl,h2,b9,q2⟩
  have P9:Hid (Pair Is w w9 p1 p2 F1 F2 (newC undef undef) (newC undef undef) [x,1,2,3,4] [x,9,8,7,6] [] []):=⟨HK.out.below (HK.out.below H7.out HA8.out) b9,h2,fun k h1 h3=>by have:=HK.out.lt (HK.out.below H7.out HA8.out) k h1;have:=q2 k h3;omega,A1.out,fun k hk=>Nat.le_trans (z0e B7.out HA8.out).size (q2 k hk),z0e (z0e B7.out HA8.out) b9⟩
  clear HCN8 HA8 b9 h2 q2 B7 H7 A1 CW HX
  have hq:=eqPtr
  go_wp2_with (first | (go_at_call 13;refine (zErr6 _ _).mono ?_;rintro e wq ⟨rfl,hwq⟩;rw[hwq];clear hwq wq))
  refine (CR1.out _ P9.out.bel).mono ?_
  rintro e w10 ⟨rfl,b10⟩
  have P10:Hid _:=P9.out.below HK.out b10
  clear b10 P9
  go_wp2_with fail
  refine (CR2.out _ P10.out.bel).mono ?_
  rintro e w11 ⟨rfl,b11⟩
  have P11:Hid _:=P10.out.below HK.out b11
  clear b11 P10 CR1 CR2
  have Z1:Hid (((w11.alloc (.cells (z0c (fun _=>0) false) 37)).alloc (.cells (z0c (fun _=>0) false) 37)).heap[w11.heap.size]?=some (.cells (z0c (fun _=>0) false) 37)):=z0m ((Below.refl _ _).alloc (Nat.le_refl _) _)
  have Z2:Hid (((w11.alloc (.cells (z0c (fun _=>0) false) 37)).alloc (.cells (z0c (fun _=>0) false) 37)).heap[w11.heap.size+1]?=some (.cells (z0c (fun _=>0) false) 37)):=by
   have:=z0g (w11.alloc (.cells (z0c (fun _=>0) false) 37)) (.cells (z0c (fun _=>0) false) 37)
   rw[World.size_alloc] at this
   exact this
  go_wp2_with (first | (refine wpList_store_row rfl 37 (.tmp 20) (.tmp 70) rfl w11.heap.size (z0c f1 false) rfl rfl 37 _ Z1.out (by rw[z0b];exact z0o) (by rw[z0b,z0b]) (z0s _ _) ?_) | (refine wpList_store_row rfl 37 (.tmp 21) (.tmp 72) rfl (w11.heap.size+1) (z0c f2 false) rfl rfl 37 _ ((setRow_other _ _ _ _ (by omega)).trans Z2.out) (by rw[z0b];exact z0o) (by rw[z0b,z0b]) (z0s _ _) ?_))
  have L0:Below w11.heap.size w11 ((((w11.alloc (.cells (z0c (fun _=>0) false) 37)).alloc (.cells (z0c (fun _=>0) false) 37)).setRow w11.heap.size (z0c f1 false)).setRow (w11.heap.size+1) (z0c f2 false)):=below_setRow (below_setRow box2 (Nat.le_refl _) _) (Nat.le_succ _) _
  have R0:Hid (TwoSt w11 w11.heap.size f1 f2 0 ((((w11.alloc (.cells (z0c (fun _=>0) false) 37)).alloc (.cells (z0c (fun _=>0) false) 37)).setRow w11.heap.size (z0c f1 false)).setRow (w11.heap.size+1) (z0c f2 false))):=
   ⟨by rw[lowF_zero];exact (setRow_other _ _ _ _ (by omega)).trans (setRow_heap _ _ _ _ _ _ Z1.out),by rw[lowF_zero];exact setRow_heap _ _ _ _ _ _ ((setRow_other _ _ _ _ (by omega)).trans Z2.out),L0⟩
  clear L0 Z1 Z2
  go_loopw [22] (fun i wr=>∃ k:Nat,k≤8∧i=.int .i64 k∧Hid (TwoSt w11 w11.heap.size f1 f2 k wr)) (fun i _=>8-(intOf i).toNat)
  case atStart=>exact⟨0,Nat.zero_le _,rfl,R0.out⟩
  case round=>
   clear R0
   obtain⟨k,hk,rfl,hr⟩:=hrel
   have T1:=hr.out.one
   have T2:=hr.out.two
   have TB:=hr.out.bel
   clear hr
   by_cases hlt:k<8
   ·have i5:(0:Int)≤(k:Int):=by omega
    have i7:(k:Int)<32:=by omega
    obtain⟨y1,hy1⟩:∃ y,y=lowF f1 k k:=⟨_,rfl⟩
    obtain⟨y2,hy2⟩:∃ y,y=lowF f2 k k:=⟨_,rfl⟩
    have u1:U32 y1:=by rw[hy1,lowF_at];exact HF1.out k
    have u2:U32 y2:=by rw[hy2,lowF_at];exact HF2.out k
    have m1:y1.tmod 4=y1%4:=Int.tmod_eq_emod_of_nonneg u1.1
    have m2:y2.tmod 4=y2%4:=Int.tmod_eq_emod_of_nonneg u2.1
    have v1:y1%4*4%4294967296=y1%4*4:=by omega
    have v2:y2%4*4%4294967296=y2%4*4:=by omega
    have HY1:Hid _:=hy1
    have HY2:Hid _:=hy2
    clear u1 u2
    go_wp2_with (first | (refine wpList_load_reg_is (by rfl) rfl rfl T1 (by omega) (by omega) HY1.out.symm ?_) | (refine z0h rfl rfl rfl rfl T1 (by omega) (by omega) ?_;intro wn T3 HO HL;have T4:=Eq.trans (HO (w11.heap.size+1) (by omega)) T2;have TL:=HL w11.heap.size w11 (Nat.le_refl _) TB;clear HO HL T1) | (refine wpList_load_reg_is (by rfl) rfl rfl T4 (by omega) (by omega) HY2.out.symm ?_) | (refine z0h rfl rfl rfl rfl T4 (by omega) (by omega) ?_;intro wm T5 HO HL;have T6:=Eq.trans (HO w11.heap.size (by omega)) T3;have TM:=HL w11.heap.size w11 (Nat.le_succ _) TL;clear HO HL T4))
    have HFN:Hid (TwoSt w11 w11.heap.size f1 f2 (k+1) wm):=⟨by
      have e:(lowF f1 k k).tmod 4*4%4294967296=f1 k%4*4:=by rw[lowF_at,Int.tmod_eq_emod_of_nonneg (HF1.out k).1];omega
      rw[← lowF_next,← e]
      exact T6,by
      have e:(lowF f2 k k).tmod 4*4%4294967296=f2 k%4*4:=by rw[lowF_at,Int.tmod_eq_emod_of_nonneg (HF2.out k).1];omega
      rw[← lowF_next,← e]
      exact T5,TM⟩
    exact⟨⟨k+1,hlt,by go_num,HFN.out⟩,by simp[intOf];omega⟩
   ·have hk8:k=8:=by omega
    subst hk8
    go_wp2_with (first | (refine z0h rfl rfl rfl rfl T1 (by decide) (by decide) ?_;intro wn T3 HO HL;have T4:=Eq.trans (HO (w11.heap.size+1) (by omega)) T2;have TL:=HL w11.heap.size w11 (Nat.le_refl _) TB;clear HO HL T1) | (refine z0h rfl rfl rfl rfl T4 (by decide) (by decide) ?_;intro wm T5 HO HL;have T6:=Eq.trans (HO w11.heap.size (by omega)) T3;have TM:=HL w11.heap.size w11 (Nat.le_succ _) TL;clear HO HL T4) | (refine z7d (by rfl) 37 (.tmp 20) rfl w11.heap.size rfl 37 (z0c _ false) _ T6 HS.out rfl (by rw[z0b];exact z0o) ?_))
    have P12:Hid _:=P11.out.below HK.out TM
    refine Calls.mono (HK.out.put P12.out.one (set1 (lowF f1 8) 32 0) false (z4m (lowF_u HF1.out 8) 32 ⟨by decide,by decide⟩)) ?_
    rintro e w13 ⟨rfl,G1,h13,c13,s13⟩
    have P13:Hid _:=P12.out.first HK.out h13 c13 s13
    have T7:=c13.kept T5 (fun e=>by have:=HK.out.lt P11.out.one _ e;omega)
    clear h13 c13 s13 P12 T5 T6 TM T3 TL TB T2
    go_wp2_with (first | (refine z7d (by rfl) 37 (.tmp 21) rfl (w11.heap.size+1) rfl 37 (z0c _ false) _ T7 HS.out rfl (by rw[z0b];exact z0o) ?_))
    refine Calls.mono (HK.out.put P13.out.two (set1 (lowF f2 8) 32 0) false (z4m (lowF_u HF2.out 8) 32 ⟨by decide,by decide⟩)) ?_
    rintro e w14 ⟨rfl,G2,h14,c14,s14⟩
    have P14:Hid (Pair Is w w14 p1 p2 G1 G2 (putS f1) (putS f2) [x,1,2,3,4] [x,9,8,7,6] [] []):=P13.out.second HK.out h14 c14 s14
    clear h14 c14 s14 P13 T7 P11
    obtain⟨t1,x1⟩:=COST.out f1 [1,2,3,4] rfl HU5.out
    obtain⟨t2,x2⟩:=COST.out f2 [9,8,7,6] rfl HU8.out
    have GO1:Hid _:=go_put HF1.out HU5.out rfl
    have GO2:Hid _:=go_put HF2.out HU8.out rfl
    have E1:Hid _:=And.intro t1 x1
    have E2:Hid _:=And.intro t2 x2
    clear t1 x1 t2 x2 COST HU5 HU8
    go_wp2_with fail
    refine Calls.mono (HK.out.step P14.out.one GO1.out) ?_
    rintro e w15 ⟨rfl,G3,h15,c15,s15⟩
    have P15:Hid _:=P14.out.first HK.out h15 c15 s15
    clear h15 c15 s15 P14 GO1
    go_wp2_with fail
    refine Calls.mono (HK.out.step P15.out.two GO2.out) ?_
    rintro e w16 ⟨rfl,G4,h16,c16,s16⟩
    have P16:Hid _:=P15.out.second HK.out h16 c16 s16
    clear h16 c16 s16 P15 GO2
    have CT1:Hid (∀ W,Below w16.heap.size w16 W→Calls Tryz.prog 17 #[.pointer (some ⟨p1,0,none⟩)] W fun e w'=>e=.returned (.int .i64 ct)∧Below W.heap.size W w'):=fun W hW=>by
     have:=HK.out.time (P16.out.below HK.out hW).one
     rw[E1.out.1] at this
     exact this
    have CT2:Hid (∀ W,Below w16.heap.size w16 W→Calls Tryz.prog 17 #[.pointer (some ⟨p2,0,none⟩)] W fun e w'=>e=.returned (.int .i64 ct)∧Below W.heap.size W w'):=fun W hW=>by
     have:=HK.out.time (P16.out.below HK.out hW).two
     rw[E2.out.1] at this
     exact this
    have CX:Hid (∀ W,Below w16.heap.size w16 W→Calls Tryz.prog 18 #[.pointer (some ⟨p1,0,none⟩)] W fun e w'=>e=.returned (.agg (z0c (z3i [] (putS f1) [x,1,2,3,4] []).1.f (z3i [] (putS f1) [x,1,2,3,4] []).1.u))∧Below W.heap.size W w'):=fun W hW=>HK.out.regs (P16.out.below HK.out hW).one
    have x0:=E1.out.2
    generalize (z3i [] (putS f1) [x,1,2,3,4] []).1.f=ff at *
    generalize (z3i [] (putS f1) [x,1,2,3,4] []).1.u=uu at *
    have B16:Hid _:=P16.out.bel
    have hpos:=HCT.out
    have hfx:=field_X ff uu
    have hix:=index_X ff uu
    clear P16 E1 E2
    go_wp2_with fail
    refine (CT1.out _ (Below.refl _ _)).mono ?_
    rintro e w17 ⟨rfl,c17⟩
    have C17:Hid _:=c17
    clear c17
    go_wp2_with fail
    refine (CT2.out _ C17.out).mono ?_
    rintro e w18 ⟨rfl,c18⟩
    have C18:Hid _:=z0e C17.out c18
    clear c18 C17 CT2
    go_wp2_with fail
    refine (CT1.out _ C18.out).mono ?_
    rintro e w19 ⟨rfl,c19⟩
    have C19:Hid _:=z0e C18.out c19
    clear c19 C18 CT1
    go_wp2_with fail
    refine (CX.out _ C19.out).mono ?_
    rintro e w20 ⟨rfl,c20⟩
    have C20:Hid _:=z0e C19.out c20
    clear c20 C19 CX
    go_wp2_with fail
    refine Calls.mono (kawake6 HK.out _) ?_
    rintro e w21 ⟨rfl,c21⟩
    have C21:Hid _:=z0e B16.out (z0e C20.out c21)
    clear c21 C20 B16
    go_wp2
    go_ret
    exact⟨rfl,C21.out⟩
 ·go_wp2_with fail
  have IW:=XI.out 0
  have BW:Hid _:=XB.out 0
  clear XI XB I3 B3 i0 i1 i2 i3 i4 f4
  generalize w3.setCell ⟨ib,4,none⟩ (.int .i32 0)=W at *
  clear hw3 w3
  refine (CW.out _).mono ?_
  rintro e w4 ⟨rfl,b4⟩
  have I4:=z0f IW b4
  have B4:Hid _:=z0e BW.out b4
  clear b4 IW BW
  go_wp2_with fail
  have HC5:Hid (∀ i,i<[x,1,2,3,4].length→(w4.alloc (.cells #[.int .u32 x,.int .u32 1,.int .u32 2,.int .u32 3,.int .u32 4] 31)).cell? ⟨w4.heap.size,0+i,none⟩=some (.int .u32 (z0p [x,1,2,3,4] i))):=fun i hi=>by
   have hi:i<5:=hi
   refine (z0a (z0g w4 _)).1 _ _ ?_
   rcases (by omega:i=0∨i=1∨i=2∨i=3∨i=4) with rfl | rfl | rfl | rfl | rfl <;> rfl
  have HU5:Hid (∀ i,U32 (z0p [x,1,2,3,4] i)):=word_u fun z hz=>by
   simp only[List.mem_cons,List.not_mem_nil,or_false] at hz
   rcases hz with rfl | rfl | rfl | rfl | rfl
   all_goals first | exact HX.out | exact⟨by decide,by decide⟩
  have HA5:Hid (Below w4.heap.size w4 (w4.alloc (.cells #[.int .u32 x,.int .u32 1,.int .u32 2,.int .u32 3,.int .u32 4] 31))):=(Below.refl _ _).alloc (Nat.le_refl _) _
  have HL5:w4.heap.size<(w4.alloc (.cells #[.int .u32 x,.int .u32 1,.int .u32 2,.int .u32 3,.int .u32 4] 31)).heap.size:=by rw[World.size_alloc];omega
  have HCN5:Hid _:=HK.out.new w4.heap.size 0 5 [x,1,2,3,4] (.slice none 0 0) [] _ (by simp) (by simp) HU5.out HL5 HC5.out (no_late _) (by decide)
  generalize w4.alloc (.cells #[.int .u32 x,.int .u32 1,.int .u32 2,.int .u32 3,.int .u32 4] 31)=V5 at *
  clear HL5 HC5
  refine Calls.mono HCN5.out ?_
  rintro e w6 ⟨p1,F1,rfl,h1,b6,q1⟩
  have B6:Hid _:=z0e (z0e B4.out HA5.out) b6
  have I6:=z0f (z0f I4 HA5.out) b6
  have H1:Hid _:=h1
  have A1:Hid (∀ k,F1 k→w.heap.size≤k):=fun k hk=>Nat.le_trans (z0e B4.out HA5.out).size (q1 k hk)
  clear HCN5 HA5 b6 h1 q1 I4 B4
  obtain⟨ic,_,_⟩:=z0a I6
  have i0:=ic 0 (.string sn) rfl
  have i1:=ic 1 (.int .i64 dn) rfl
  have i2:=ic 2 (.int .i64 an) rfl
  have i3:=ic 3 (.int .i64 bn) rfl
  have i4:=ic 4 (.int .i32 0) rfl
  clear ic
  go_wp2_with fail
  refine (CW.out _).mono ?_
  rintro e w7 ⟨rfl,b7⟩
  have B7:Hid _:=z0e B6.out b7
  have H7:Hid _:=HK.out.below H1.out b7
  clear b7 B6 H1 I6 i0 i1 i2 i3 i4
  go_wp2_with fail
  have HC8:Hid (∀ i,i<[x,9,8,7,6].length→(w7.alloc (.cells #[.int .u32 x,.int .u32 9,.int .u32 8,.int .u32 7,.int .u32 6] 31)).cell? ⟨w7.heap.size,0+i,none⟩=some (.int .u32 (z0p [x,9,8,7,6] i))):=fun i hi=>by
   have hi:i<5:=hi
   refine (z0a (z0g w7 _)).1 _ _ ?_
   rcases (by omega:i=0∨i=1∨i=2∨i=3∨i=4) with rfl | rfl | rfl | rfl | rfl <;> rfl
  have HU8:Hid (∀ i,U32 (z0p [x,9,8,7,6] i)):=word_u fun z hz=>by
   simp only[List.mem_cons,List.not_mem_nil,or_false] at hz
   rcases hz with rfl | rfl | rfl | rfl | rfl
   all_goals first | exact HX.out | exact⟨by decide,by decide⟩
  have HA8:Hid (Below w7.heap.size w7 (w7.alloc (.cells #[.int .u32 x,.int .u32 9,.int .u32 8,.int .u32 7,.int .u32 6] 31))):=(Below.refl _ _).alloc (Nat.le_refl _) _
  have HL8:w7.heap.size<(w7.alloc (.cells #[.int .u32 x,.int .u32 9,.int .u32 8,.int .u32 7,.int .u32 6] 31)).heap.size:=by rw[World.size_alloc];omega
  have HCN8:Hid _:=HK.out.new w7.heap.size 0 5 [x,9,8,7,6] (.slice none 0 0) [] _ (by simp) (by simp) HU8.out HL8 HC8.out (no_late _) (by decide)
  generalize w7.alloc (.cells #[.int .u32 x,.int .u32 9,.int .u32 8,.int .u32 7,.int .u32 6] 31)=V8 at *
  clear HL8 HC8
  refine Calls.mono HCN8.out ?_
  rintro e w9 ⟨p2,F2,rfl,h2,b9,q2⟩
  have P9:Hid (Pair Is w w9 p1 p2 F1 F2 (newC undef undef) (newC undef undef) [x,1,2,3,4] [x,9,8,7,6] [] []):=⟨HK.out.below (HK.out.below H7.out HA8.out) b9,h2,fun k h1 h3=>by have:=HK.out.lt (HK.out.below H7.out HA8.out) k h1;have:=q2 k h3;omega,A1.out,fun k hk=>Nat.le_trans (z0e B7.out HA8.out).size (q2 k hk),z0e (z0e B7.out HA8.out) b9⟩
  clear HCN8 HA8 b9 h2 q2 B7 H7 A1 CW HX
  have hq:=eqPtr
  go_wp2_with (first | (go_at_call 13;refine (zErr6 _ _).mono ?_;rintro e wq ⟨rfl,hwq⟩;rw[hwq];clear hwq wq))
  refine (CR1.out _ P9.out.bel).mono ?_
  rintro e w10 ⟨rfl,b10⟩
  have P10:Hid _:=P9.out.below HK.out b10
  clear b10 P9
  go_wp2_with fail
  refine (CR2.out _ P10.out.bel).mono ?_
  rintro e w11 ⟨rfl,b11⟩
  have P11:Hid _:=P10.out.below HK.out b11
  clear b11 P10 CR1 CR2
  have Z1:Hid (((w11.alloc (.cells (z0c (fun _=>0) false) 37)).alloc (.cells (z0c (fun _=>0) false) 37)).heap[w11.heap.size]?=some (.cells (z0c (fun _=>0) false) 37)):=z0m ((Below.refl _ _).alloc (Nat.le_refl _) _)
  have Z2:Hid (((w11.alloc (.cells (z0c (fun _=>0) false) 37)).alloc (.cells (z0c (fun _=>0) false) 37)).heap[w11.heap.size+1]?=some (.cells (z0c (fun _=>0) false) 37)):=by
   have:=z0g (w11.alloc (.cells (z0c (fun _=>0) false) 37)) (.cells (z0c (fun _=>0) false) 37)
   rw[World.size_alloc] at this
   exact this
  go_wp2_with (first | (refine wpList_store_row rfl 37 (.tmp 20) (.tmp 70) rfl w11.heap.size (z0c f1 false) rfl rfl 37 _ Z1.out (by rw[z0b];exact z0o) (by rw[z0b,z0b]) (z0s _ _) ?_) | (refine wpList_store_row rfl 37 (.tmp 21) (.tmp 72) rfl (w11.heap.size+1) (z0c f2 false) rfl rfl 37 _ ((setRow_other _ _ _ _ (by omega)).trans Z2.out) (by rw[z0b];exact z0o) (by rw[z0b,z0b]) (z0s _ _) ?_))
  have L0:Below w11.heap.size w11 ((((w11.alloc (.cells (z0c (fun _=>0) false) 37)).alloc (.cells (z0c (fun _=>0) false) 37)).setRow w11.heap.size (z0c f1 false)).setRow (w11.heap.size+1) (z0c f2 false)):=below_setRow (below_setRow box2 (Nat.le_refl _) _) (Nat.le_succ _) _
  have R0:Hid (TwoSt w11 w11.heap.size f1 f2 0 ((((w11.alloc (.cells (z0c (fun _=>0) false) 37)).alloc (.cells (z0c (fun _=>0) false) 37)).setRow w11.heap.size (z0c f1 false)).setRow (w11.heap.size+1) (z0c f2 false))):=
   ⟨by rw[lowF_zero];exact (setRow_other _ _ _ _ (by omega)).trans (setRow_heap _ _ _ _ _ _ Z1.out),by rw[lowF_zero];exact setRow_heap _ _ _ _ _ _ ((setRow_other _ _ _ _ (by omega)).trans Z2.out),L0⟩
  clear L0 Z1 Z2
  go_loopw [22] (fun i wr=>∃ k:Nat,k≤8∧i=.int .i64 k∧Hid (TwoSt w11 w11.heap.size f1 f2 k wr)) (fun i _=>8-(intOf i).toNat)
  case atStart=>exact⟨0,Nat.zero_le _,rfl,R0.out⟩
  case round=>
   clear R0
   obtain⟨k,hk,rfl,hr⟩:=hrel
   have T1:=hr.out.one
   have T2:=hr.out.two
   have TB:=hr.out.bel
   clear hr
   by_cases hlt:k<8
   ·have i5:(0:Int)≤(k:Int):=by omega
    have i7:(k:Int)<32:=by omega
    obtain⟨y1,hy1⟩:∃ y,y=lowF f1 k k:=⟨_,rfl⟩
    obtain⟨y2,hy2⟩:∃ y,y=lowF f2 k k:=⟨_,rfl⟩
    have u1:U32 y1:=by rw[hy1,lowF_at];exact HF1.out k
    have u2:U32 y2:=by rw[hy2,lowF_at];exact HF2.out k
    have m1:y1.tmod 4=y1%4:=Int.tmod_eq_emod_of_nonneg u1.1
    have m2:y2.tmod 4=y2%4:=Int.tmod_eq_emod_of_nonneg u2.1
    have v1:y1%4*4%4294967296=y1%4*4:=by omega
    have v2:y2%4*4%4294967296=y2%4*4:=by omega
    have HY1:Hid _:=hy1
    have HY2:Hid _:=hy2
    clear u1 u2
    go_wp2_with (first | (refine wpList_load_reg_is (by rfl) rfl rfl T1 (by omega) (by omega) HY1.out.symm ?_) | (refine z0h rfl rfl rfl rfl T1 (by omega) (by omega) ?_;intro wn T3 HO HL;have T4:=Eq.trans (HO (w11.heap.size+1) (by omega)) T2;have TL:=HL w11.heap.size w11 (Nat.le_refl _) TB;clear HO HL T1) | (refine wpList_load_reg_is (by rfl) rfl rfl T4 (by omega) (by omega) HY2.out.symm ?_) | (refine z0h rfl rfl rfl rfl T4 (by omega) (by omega) ?_;intro wm T5 HO HL;have T6:=Eq.trans (HO w11.heap.size (by omega)) T3;have TM:=HL w11.heap.size w11 (Nat.le_succ _) TL;clear HO HL T4))
    have HFN:Hid (TwoSt w11 w11.heap.size f1 f2 (k+1) wm):=⟨by
      have e:(lowF f1 k k).tmod 4*4%4294967296=f1 k%4*4:=by rw[lowF_at,Int.tmod_eq_emod_of_nonneg (HF1.out k).1];omega
      rw[← lowF_next,← e]
      exact T6,by
      have e:(lowF f2 k k).tmod 4*4%4294967296=f2 k%4*4:=by rw[lowF_at,Int.tmod_eq_emod_of_nonneg (HF2.out k).1];omega
      rw[← lowF_next,← e]
      exact T5,TM⟩
    exact⟨⟨k+1,hlt,by go_num,HFN.out⟩,by simp[intOf];omega⟩
   ·have hk8:k=8:=by omega
    subst hk8
    go_wp2_with (first | (refine z0h rfl rfl rfl rfl T1 (by decide) (by decide) ?_;intro wn T3 HO HL;have T4:=Eq.trans (HO (w11.heap.size+1) (by omega)) T2;have TL:=HL w11.heap.size w11 (Nat.le_refl _) TB;clear HO HL T1) | (refine z0h rfl rfl rfl rfl T4 (by decide) (by decide) ?_;intro wm T5 HO HL;have T6:=Eq.trans (HO w11.heap.size (by omega)) T3;have TM:=HL w11.heap.size w11 (Nat.le_succ _) TL;clear HO HL T4) | (refine z7d (by rfl) 37 (.tmp 20) rfl w11.heap.size rfl 37 (z0c _ false) _ T6 HS.out rfl (by rw[z0b];exact z0o) ?_))
    have P12:Hid _:=P11.out.below HK.out TM
    refine Calls.mono (HK.out.put P12.out.one (set1 (lowF f1 8) 32 0) false (z4m (lowF_u HF1.out 8) 32 ⟨by decide,by decide⟩)) ?_
    rintro e w13 ⟨rfl,G1,h13,c13,s13⟩
    have P13:Hid _:=P12.out.first HK.out h13 c13 s13
    have T7:=c13.kept T5 (fun e=>by have:=HK.out.lt P11.out.one _ e;omega)
    clear h13 c13 s13 P12 T5 T6 TM T3 TL TB T2
    go_wp2_with (first | (refine z7d (by rfl) 37 (.tmp 21) rfl (w11.heap.size+1) rfl 37 (z0c _ false) _ T7 HS.out rfl (by rw[z0b];exact z0o) ?_))
    refine Calls.mono (HK.out.put P13.out.two (set1 (lowF f2 8) 32 0) false (z4m (lowF_u HF2.out 8) 32 ⟨by decide,by decide⟩)) ?_
    rintro e w14 ⟨rfl,G2,h14,c14,s14⟩
    have P14:Hid (Pair Is w w14 p1 p2 G1 G2 (putS f1) (putS f2) [x,1,2,3,4] [x,9,8,7,6] [] []):=P13.out.second HK.out h14 c14 s14
    clear h14 c14 s14 P13 T7 P11
    obtain⟨t1,x1⟩:=COST.out f1 [1,2,3,4] rfl HU5.out
    obtain⟨t2,x2⟩:=COST.out f2 [9,8,7,6] rfl HU8.out
    have GO1:Hid _:=go_put HF1.out HU5.out rfl
    have GO2:Hid _:=go_put HF2.out HU8.out rfl
    have E1:Hid _:=And.intro t1 x1
    have E2:Hid _:=And.intro t2 x2
    clear t1 x1 t2 x2 COST HU5 HU8
    go_wp2_with fail
    refine Calls.mono (HK.out.step P14.out.one GO1.out) ?_
    rintro e w15 ⟨rfl,G3,h15,c15,s15⟩
    have P15:Hid _:=P14.out.first HK.out h15 c15 s15
    clear h15 c15 s15 P14 GO1
    go_wp2_with fail
    refine Calls.mono (HK.out.step P15.out.two GO2.out) ?_
    rintro e w16 ⟨rfl,G4,h16,c16,s16⟩
    have P16:Hid _:=P15.out.second HK.out h16 c16 s16
    clear h16 c16 s16 P15 GO2
    have CT1:Hid (∀ W,Below w16.heap.size w16 W→Calls Tryz.prog 17 #[.pointer (some ⟨p1,0,none⟩)] W fun e w'=>e=.returned (.int .i64 ct)∧Below W.heap.size W w'):=fun W hW=>by
     have:=HK.out.time (P16.out.below HK.out hW).one
     rw[E1.out.1] at this
     exact this
    have CT2:Hid (∀ W,Below w16.heap.size w16 W→Calls Tryz.prog 17 #[.pointer (some ⟨p2,0,none⟩)] W fun e w'=>e=.returned (.int .i64 ct)∧Below W.heap.size W w'):=fun W hW=>by
     have:=HK.out.time (P16.out.below HK.out hW).two
     rw[E2.out.1] at this
     exact this
    have CX:Hid (∀ W,Below w16.heap.size w16 W→Calls Tryz.prog 18 #[.pointer (some ⟨p1,0,none⟩)] W fun e w'=>e=.returned (.agg (z0c (z3i [] (putS f1) [x,1,2,3,4] []).1.f (z3i [] (putS f1) [x,1,2,3,4] []).1.u))∧Below W.heap.size W w'):=fun W hW=>HK.out.regs (P16.out.below HK.out hW).one
    have x0:=E1.out.2
    generalize (z3i [] (putS f1) [x,1,2,3,4] []).1.f=ff at *
    generalize (z3i [] (putS f1) [x,1,2,3,4] []).1.u=uu at *
    have B16:Hid _:=P16.out.bel
    have hpos:=HCT.out
    have hfx:=field_X ff uu
    have hix:=index_X ff uu
    clear P16 E1 E2
    go_wp2_with fail
    refine (CT1.out _ (Below.refl _ _)).mono ?_
    rintro e w17 ⟨rfl,c17⟩
    have C17:Hid _:=c17
    clear c17
    go_wp2_with fail
    refine (CT2.out _ C17.out).mono ?_
    rintro e w18 ⟨rfl,c18⟩
    have C18:Hid _:=z0e C17.out c18
    clear c18 C17 CT2
    go_wp2_with fail
    refine (CT1.out _ C18.out).mono ?_
    rintro e w19 ⟨rfl,c19⟩
    have C19:Hid _:=z0e C18.out c19
    clear c19 C18 CT1
    go_wp2_with fail
    refine (CX.out _ C19.out).mono ?_
    rintro e w20 ⟨rfl,c20⟩
    have C20:Hid _:=z0e C19.out c20
    clear c20 C19 CX
    go_wp2_with fail
    refine Calls.mono (kawake6 HK.out _) ?_
    rintro e w21 ⟨rfl,c21⟩
    have C21:Hid _:=z0e B16.out (z0e C20.out c21)
    clear c21 C20 B16
    go_wp2
    go_ret
    exact⟨rfl,C21.out⟩
 ·go_wp2_with fail
  have IW:=XI.out 0
  have BW:Hid _:=XB.out 0
  clear XI XB I3 B3 i0 i1 i2 i3 i4 f4
  generalize w3.setCell ⟨ib,4,none⟩ (.int .i32 0)=W at *
  clear hw3 w3
  refine (CW.out _).mono ?_
  rintro e w4 ⟨rfl,b4⟩
  have I4:=z0f IW b4
  have B4:Hid _:=z0e BW.out b4
  clear b4 IW BW
  go_wp2_with fail
  have HC5:Hid (∀ i,i<[x,1,2,3,4].length→(w4.alloc (.cells #[.int .u32 x,.int .u32 1,.int .u32 2,.int .u32 3,.int .u32 4] 31)).cell? ⟨w4.heap.size,0+i,none⟩=some (.int .u32 (z0p [x,1,2,3,4] i))):=fun i hi=>by
   have hi:i<5:=hi
   refine (z0a (z0g w4 _)).1 _ _ ?_
   rcases (by omega:i=0∨i=1∨i=2∨i=3∨i=4) with rfl | rfl | rfl | rfl | rfl <;> rfl
  have HU5:Hid (∀ i,U32 (z0p [x,1,2,3,4] i)):=word_u fun z hz=>by
   simp only[List.mem_cons,List.not_mem_nil,or_false] at hz
   rcases hz with rfl | rfl | rfl | rfl | rfl
   all_goals first | exact HX.out | exact⟨by decide,by decide⟩
  have HA5:Hid (Below w4.heap.size w4 (w4.alloc (.cells #[.int .u32 x,.int .u32 1,.int .u32 2,.int .u32 3,.int .u32 4] 31))):=(Below.refl _ _).alloc (Nat.le_refl _) _
  have HL5:w4.heap.size<(w4.alloc (.cells #[.int .u32 x,.int .u32 1,.int .u32 2,.int .u32 3,.int .u32 4] 31)).heap.size:=by rw[World.size_alloc];omega
  have HCN5:Hid _:=HK.out.new w4.heap.size 0 5 [x,1,2,3,4] (.slice none 0 0) [] _ (by simp) (by simp) HU5.out HL5 HC5.out (no_late _) (by decide)
  generalize w4.alloc (.cells #[.int .u32 x,.int .u32 1,.int .u32 2,.int .u32 3,.int .u32 4] 31)=V5 at *
  clear HL5 HC5
  refine Calls.mono HCN5.out ?_
  rintro e w6 ⟨p1,F1,rfl,h1,b6,q1⟩
  have B6:Hid _:=z0e (z0e B4.out HA5.out) b6
  have I6:=z0f (z0f I4 HA5.out) b6
  have H1:Hid _:=h1
  have A1:Hid (∀ k,F1 k→w.heap.size≤k):=fun k hk=>Nat.le_trans (z0e B4.out HA5.out).size (q1 k hk)
  clear HCN5 HA5 b6 h1 q1 I4 B4
  obtain⟨ic,_,_⟩:=z0a I6
  have i0:=ic 0 (.string sn) rfl
  have i1:=ic 1 (.int .i64 dn) rfl
  have i2:=ic 2 (.int .i64 an) rfl
  have i3:=ic 3 (.int .i64 bn) rfl
  have i4:=ic 4 (.int .i32 0) rfl
  clear ic
  go_wp2_with fail
  refine (CW.out _).mono ?_
  rintro e w7 ⟨rfl,b7⟩
  have B7:Hid _:=z0e B6.out b7
  have H7:Hid _:=HK.out.below H1.out b7
  clear b7 B6 H1 I6 i0 i1 i2 i3 i4
  go_wp2_with fail
  have HC8:Hid (∀ i,i<[x,9,8,7,6].length→(w7.alloc (.cells #[.int .u32 x,.int .u32 9,.int .u32 8,.int .u32 7,.int .u32 6] 31)).cell? ⟨w7.heap.size,0+i,none⟩=some (.int .u32 (z0p [x,9,8,7,6] i))):=fun i hi=>by
   have hi:i<5:=hi
   refine (z0a (z0g w7 _)).1 _ _ ?_
   rcases (by omega:i=0∨i=1∨i=2∨i=3∨i=4) with rfl | rfl | rfl | rfl | rfl <;> rfl
  have HU8:Hid (∀ i,U32 (z0p [x,9,8,7,6] i)):=word_u fun z hz=>by
   simp only[List.mem_cons,List.not_mem_nil,or_false] at hz
   rcases hz with rfl | rfl | rfl | rfl | rfl
   all_goals first | exact HX.out | exact⟨by decide,by decide⟩
  have HA8:Hid (Below w7.heap.size w7 (w7.alloc (.cells #[.int .u32 x,.int .u32 9,.int .u32 8,.int .u32 7,.int .u32 6] 31))):=(Below.refl _ _).alloc (Nat.le_refl _) _
  have HL8:w7.heap.size<(w7.alloc (.cells #[.int .u32 x,.int .u32 9,.int .u32 8,.int .u32 7,.int .u32 6] 31)).heap.size:=by rw[World.size_alloc];omega
  have HCN8:Hid _:=HK.out.new w7.heap.size 0 5 [x,9,8,7,6] (.slice none 0 0) [] _ (by simp) (by simp) HU8.out HL8 HC8.out (no_late _) (by decide)
  generalize w7.alloc (.cells #[.int .u32 x,.int .u32 9,.int .u32 8,.int .u32 7,.int .u32 6] 31)=V8 at *
  clear HL8 HC8
  refine Calls.mono HCN8.out ?_
  rintro e w9 ⟨p2,F2,rfl,h2,b9,q2⟩
  have P9:Hid (Pair Is w w9 p1 p2 F1 F2 (newC undef undef) (newC undef undef) [x,1,2,3,4] [x,9,8,7,6] [] []):=⟨HK.out.below (HK.out.below H7.out HA8.out) b9,h2,fun k h1 h3=>by have:=HK.out.lt (HK.out.below H7.out HA8.out) k h1;have:=q2 k h3;omega,A1.out,fun k hk=>Nat.le_trans (z0e B7.out HA8.out).size (q2 k hk),z0e (z0e B7.out HA8.out) b9⟩
  clear HCN8 HA8 b9 h2 q2 B7 H7 A1 CW HX
  have hq:=eqPtr
  go_wp2_with (first | (go_at_call 13;refine (zErr6 _ _).mono ?_;rintro e wq ⟨rfl,hwq⟩;rw[hwq];clear hwq wq))
  refine (CR1.out _ P9.out.bel).mono ?_
  rintro e w10 ⟨rfl,b10⟩
  have P10:Hid _:=P9.out.below HK.out b10
  clear b10 P9
  go_wp2_with fail
  refine (CR2.out _ P10.out.bel).mono ?_
  rintro e w11 ⟨rfl,b11⟩
  have P11:Hid _:=P10.out.below HK.out b11
  clear b11 P10 CR1 CR2
  have Z1:Hid (((w11.alloc (.cells (z0c (fun _=>0) false) 37)).alloc (.cells (z0c (fun _=>0) false) 37)).heap[w11.heap.size]?=some (.cells (z0c (fun _=>0) false) 37)):=z0m ((Below.refl _ _).alloc (Nat.le_refl _) _)
  have Z2:Hid (((w11.alloc (.cells (z0c (fun _=>0) false) 37)).alloc (.cells (z0c (fun _=>0) false) 37)).heap[w11.heap.size+1]?=some (.cells (z0c (fun _=>0) false) 37)):=by
   have:=z0g (w11.alloc (.cells (z0c (fun _=>0) false) 37)) (.cells (z0c (fun _=>0) false) 37)
   rw[World.size_alloc] at this
   exact this
  go_wp2_with (first | (refine wpList_store_row rfl 37 (.tmp 20) (.tmp 70) rfl w11.heap.size (z0c f1 false) rfl rfl 37 _ Z1.out (by rw[z0b];exact z0o) (by rw[z0b,z0b]) (z0s _ _) ?_) | (refine wpList_store_row rfl 37 (.tmp 21) (.tmp 72) rfl (w11.heap.size+1) (z0c f2 false) rfl rfl 37 _ ((setRow_other _ _ _ _ (by omega)).trans Z2.out) (by rw[z0b];exact z0o) (by rw[z0b,z0b]) (z0s _ _) ?_))
  have L0:Below w11.heap.size w11 ((((w11.alloc (.cells (z0c (fun _=>0) false) 37)).alloc (.cells (z0c (fun _=>0) false) 37)).setRow w11.heap.size (z0c f1 false)).setRow (w11.heap.size+1) (z0c f2 false)):=below_setRow (below_setRow box2 (Nat.le_refl _) _) (Nat.le_succ _) _
  have R0:Hid (TwoSt w11 w11.heap.size f1 f2 0 ((((w11.alloc (.cells (z0c (fun _=>0) false) 37)).alloc (.cells (z0c (fun _=>0) false) 37)).setRow w11.heap.size (z0c f1 false)).setRow (w11.heap.size+1) (z0c f2 false))):=
   ⟨by rw[lowF_zero];exact (setRow_other _ _ _ _ (by omega)).trans (setRow_heap _ _ _ _ _ _ Z1.out),by rw[lowF_zero];exact setRow_heap _ _ _ _ _ _ ((setRow_other _ _ _ _ (by omega)).trans Z2.out),L0⟩
  clear L0 Z1 Z2
  go_loopw [22] (fun i wr=>∃ k:Nat,k≤8∧i=.int .i64 k∧Hid (TwoSt w11 w11.heap.size f1 f2 k wr)) (fun i _=>8-(intOf i).toNat)
  case atStart=>exact⟨0,Nat.zero_le _,rfl,R0.out⟩
  case round=>
   clear R0
   obtain⟨k,hk,rfl,hr⟩:=hrel
   have T1:=hr.out.one
   have T2:=hr.out.two
   have TB:=hr.out.bel
   clear hr
   by_cases hlt:k<8
   ·have i5:(0:Int)≤(k:Int):=by omega
    have i7:(k:Int)<32:=by omega
    obtain⟨y1,hy1⟩:∃ y,y=lowF f1 k k:=⟨_,rfl⟩
    obtain⟨y2,hy2⟩:∃ y,y=lowF f2 k k:=⟨_,rfl⟩
    have u1:U32 y1:=by rw[hy1,lowF_at];exact HF1.out k
    have u2:U32 y2:=by rw[hy2,lowF_at];exact HF2.out k
    have m1:y1.tmod 4=y1%4:=Int.tmod_eq_emod_of_nonneg u1.1
    have m2:y2.tmod 4=y2%4:=Int.tmod_eq_emod_of_nonneg u2.1
    have v1:y1%4*4%4294967296=y1%4*4:=by omega
    have v2:y2%4*4%4294967296=y2%4*4:=by omega
    have HY1:Hid _:=hy1
    have HY2:Hid _:=hy2
    clear u1 u2
    go_wp2_with (first | (refine wpList_load_reg_is (by rfl) rfl rfl T1 (by omega) (by omega) HY1.out.symm ?_) | (refine z0h rfl rfl rfl rfl T1 (by omega) (by omega) ?_;intro wn T3 HO HL;have T4:=Eq.trans (HO (w11.heap.size+1) (by omega)) T2;have TL:=HL w11.heap.size w11 (Nat.le_refl _) TB;clear HO HL T1) | (refine wpList_load_reg_is (by rfl) rfl rfl T4 (by omega) (by omega) HY2.out.symm ?_) | (refine z0h rfl rfl rfl rfl T4 (by omega) (by omega) ?_;intro wm T5 HO HL;have T6:=Eq.trans (HO w11.heap.size (by omega)) T3;have TM:=HL w11.heap.size w11 (Nat.le_succ _) TL;clear HO HL T4))
    have HFN:Hid (TwoSt w11 w11.heap.size f1 f2 (k+1) wm):=⟨by
      have e:(lowF f1 k k).tmod 4*4%4294967296=f1 k%4*4:=by rw[lowF_at,Int.tmod_eq_emod_of_nonneg (HF1.out k).1];omega
      rw[← lowF_next,← e]
      exact T6,by
      have e:(lowF f2 k k).tmod 4*4%4294967296=f2 k%4*4:=by rw[lowF_at,Int.tmod_eq_emod_of_nonneg (HF2.out k).1];omega
      rw[← lowF_next,← e]
      exact T5,TM⟩
    exact⟨⟨k+1,hlt,by go_num,HFN.out⟩,by simp[intOf];omega⟩
   ·have hk8:k=8:=by omega
    subst hk8
    go_wp2_with (first | (refine z0h rfl rfl rfl rfl T1 (by decide) (by decide) ?_;intro wn T3 HO HL;have T4:=Eq.trans (HO (w11.heap.size+1) (by omega)) T2;have TL:=HL w11.heap.size w11 (Nat.le_refl _) TB;clear HO HL T1) | (refine z0h rfl rfl rfl rfl T4 (by decide) (by decide) ?_;intro wm T5 HO HL;have T6:=Eq.trans (HO w11.heap.size (by omega)) T3;have TM:=HL w11.heap.size w11 (Nat.le_succ _) TL;clear HO HL T4) | (refine z7d (by rfl) 37 (.tmp 20) rfl w11.heap.size rfl 37 (z0c _ false) _ T6 HS.out rfl (by rw[z0b];exact z0o) ?_))
    have P12:Hid _:=P11.out.below HK.out TM
    refine Calls.mono (HK.out.put P12.out.one (set1 (lowF f1 8) 32 0) false (z4m (lowF_u HF1.out 8) 32 ⟨by decide,by decide⟩)) ?_
    rintro e w13 ⟨rfl,G1,h13,c13,s13⟩
    have P13:Hid _:=P12.out.first HK.out h13 c13 s13
    have T7:=c13.kept T5 (fun e=>by have:=HK.out.lt P11.out.one _ e;omega)
    clear h13 c13 s13 P12 T5 T6 TM T3 TL TB T2
    go_wp2_with (first | (refine z7d (by rfl) 37 (.tmp 21) rfl (w11.heap.size+1) rfl 37 (z0c _ false) _ T7 HS.out rfl (by rw[z0b];exact z0o) ?_))
    refine Calls.mono (HK.out.put P13.out.two (set1 (lowF f2 8) 32 0) false (z4m (lowF_u HF2.out 8) 32 ⟨by decide,by decide⟩)) ?_
    rintro e w14 ⟨rfl,G2,h14,c14,s14⟩
    have P14:Hid (Pair Is w w14 p1 p2 G1 G2 (putS f1) (putS f2) [x,1,2,3,4] [x,9,8,7,6] [] []):=P13.out.second HK.out h14 c14 s14
    clear h14 c14 s14 P13 T7 P11
    obtain⟨t1,x1⟩:=COST.out f1 [1,2,3,4] rfl HU5.out
    obtain⟨t2,x2⟩:=COST.out f2 [9,8,7,6] rfl HU8.out
    have GO1:Hid _:=go_put HF1.out HU5.out rfl
    have GO2:Hid _:=go_put HF2.out HU8.out rfl
    have E1:Hid _:=And.intro t1 x1
    have E2:Hid _:=And.intro t2 x2
    clear t1 x1 t2 x2 COST HU5 HU8
    go_wp2_with fail
    refine Calls.mono (HK.out.step P14.out.one GO1.out) ?_
    rintro e w15 ⟨rfl,G3,h15,c15,s15⟩
    have P15:Hid _:=P14.out.first HK.out h15 c15 s15
    clear h15 c15 s15 P14 GO1
    go_wp2_with fail
    refine Calls.mono (HK.out.step P15.out.two GO2.out) ?_
    rintro e w16 ⟨rfl,G4,h16,c16,s16⟩
    have P16:Hid _:=P15.out.second HK.out h16 c16 s16
    clear h16 c16 s16 P15 GO2
    have CT1:Hid (∀ W,Below w16.heap.size w16 W→Calls Tryz.prog 17 #[.pointer (some ⟨p1,0,none⟩)] W fun e w'=>e=.returned (.int .i64 ct)∧Below W.heap.size W w'):=fun W hW=>by
     have:=HK.out.time (P16.out.below HK.out hW).one
     rw[E1.out.1] at this
     exact this
    have CT2:Hid (∀ W,Below w16.heap.size w16 W→Calls Tryz.prog 17 #[.pointer (some ⟨p2,0,none⟩)] W fun e w'=>e=.returned (.int .i64 ct)∧Below W.heap.size W w'):=fun W hW=>by
     have:=HK.out.time (P16.out.below HK.out hW).two
     rw[E2.out.1] at this
     exact this
    have CX:Hid (∀ W,Below w16.heap.size w16 W→Calls Tryz.prog 18 #[.pointer (some ⟨p1,0,none⟩)] W fun e w'=>e=.returned (.agg (z0c (z3i [] (putS f1) [x,1,2,3,4] []).1.f (z3i [] (putS f1) [x,1,2,3,4] []).1.u))∧Below W.heap.size W w'):=fun W hW=>HK.out.regs (P16.out.below HK.out hW).one
    have x0:=E1.out.2
    generalize (z3i [] (putS f1) [x,1,2,3,4] []).1.f=ff at *
    generalize (z3i [] (putS f1) [x,1,2,3,4] []).1.u=uu at *
    have B16:Hid _:=P16.out.bel
    have hpos:=HCT.out
    have hfx:=field_X ff uu
    have hix:=index_X ff uu
    clear P16 E1 E2
    go_wp2_with fail
    refine (CT1.out _ (Below.refl _ _)).mono ?_
    rintro e w17 ⟨rfl,c17⟩
    have C17:Hid _:=c17
    clear c17
    go_wp2_with fail
    refine (CT2.out _ C17.out).mono ?_
    rintro e w18 ⟨rfl,c18⟩
    have C18:Hid _:=z0e C17.out c18
    clear c18 C17 CT2
    go_wp2_with fail
    refine (CT1.out _ C18.out).mono ?_
    rintro e w19 ⟨rfl,c19⟩
    have C19:Hid _:=z0e C18.out c19
    clear c19 C18 CT1
    go_wp2_with fail
    refine (CX.out _ C19.out).mono ?_
    rintro e w20 ⟨rfl,c20⟩
    have C20:Hid _:=z0e C19.out c20
    clear c20 C19 CX
    go_wp2_with fail
    refine Calls.mono (kawake6 HK.out _) ?_
    rintro e w21 ⟨rfl,c21⟩
    have C21:Hid _:=z0e B16.out (z0e C20.out c21)
    clear c21 C20 B16
    go_wp2
    go_ret
    exact⟨rfl,C21.out⟩
 ·go_wp2_with fail
  have IW:=I3
  have BW:Hid _:=B3.out
  clear XI XB I3 B3 i0 i1 i2 i3 i4 f4 hw3
  generalize w3=W at *
  refine (CW.out _).mono ?_
  rintro e w4 ⟨rfl,b4⟩
  have I4:=z0f IW b4
  have B4:Hid _:=z0e BW.out b4
  clear b4 IW BW
  go_wp2_with fail
  have HC5:Hid (∀ i,i<[x,1,2,3,4].length→(w4.alloc (.cells #[.int .u32 x,.int .u32 1,.int .u32 2,.int .u32 3,.int .u32 4] 31)).cell? ⟨w4.heap.size,0+i,none⟩=some (.int .u32 (z0p [x,1,2,3,4] i))):=fun i hi=>by
   have hi:i<5:=hi
   refine (z0a (z0g w4 _)).1 _ _ ?_
   rcases (by omega:i=0∨i=1∨i=2∨i=3∨i=4) with rfl | rfl | rfl | rfl | rfl <;> rfl
  have HU5:Hid (∀ i,U32 (z0p [x,1,2,3,4] i)):=word_u fun z hz=>by
   simp only[List.mem_cons,List.not_mem_nil,or_false] at hz
   rcases hz with rfl | rfl | rfl | rfl | rfl
   all_goals first | exact HX.out | exact⟨by decide,by decide⟩
  have HA5:Hid (Below w4.heap.size w4 (w4.alloc (.cells #[.int .u32 x,.int .u32 1,.int .u32 2,.int .u32 3,.int .u32 4] 31))):=(Below.refl _ _).alloc (Nat.le_refl _) _
  have HL5:w4.heap.size<(w4.alloc (.cells #[.int .u32 x,.int .u32 1,.int .u32 2,.int .u32 3,.int .u32 4] 31)).heap.size:=by rw[World.size_alloc];omega
  have HCN5:Hid _:=HK.out.new w4.heap.size 0 5 [x,1,2,3,4] (.slice none 0 0) [] _ (by simp) (by simp) HU5.out HL5 HC5.out (no_late _) (by decide)
  generalize w4.alloc (.cells #[.int .u32 x,.int .u32 1,.int .u32 2,.int .u32 3,.int .u32 4] 31)=V5 at *
  clear HL5 HC5
  refine Calls.mono HCN5.out ?_
  rintro e w6 ⟨p1,F1,rfl,h1,b6,q1⟩
  have B6:Hid _:=z0e (z0e B4.out HA5.out) b6
  have I6:=z0f (z0f I4 HA5.out) b6
  have H1:Hid _:=h1
  have A1:Hid (∀ k,F1 k→w.heap.size≤k):=fun k hk=>Nat.le_trans (z0e B4.out HA5.out).size (q1 k hk)
  clear HCN5 HA5 b6 h1 q1 I4 B4
  obtain⟨ic,_,_⟩:=z0a I6
  have i0:=ic 0 (.string sn) rfl
  have i1:=ic 1 (.int .i64 dn) rfl
  have i2:=ic 2 (.int .i64 an) rfl
  have i3:=ic 3 (.int .i64 bn) rfl
  have i4:=ic 4 (.int .i32 mm) rfl
  clear ic
  go_wp2_with fail
  refine (CW.out _).mono ?_
  rintro e w7 ⟨rfl,b7⟩
  have B7:Hid _:=z0e B6.out b7
  have H7:Hid _:=HK.out.below H1.out b7
  clear b7 B6 H1 I6 i0 i1 i2 i3 i4
  go_wp2_with fail
  have HC8:Hid (∀ i,i<[x,9,8,7,6].length→(w7.alloc (.cells #[.int .u32 x,.int .u32 9,.int .u32 8,.int .u32 7,.int .u32 6] 31)).cell? ⟨w7.heap.size,0+i,none⟩=some (.int .u32 (z0p [x,9,8,7,6] i))):=fun i hi=>by
   have hi:i<5:=hi
   refine (z0a (z0g w7 _)).1 _ _ ?_
   rcases (by omega:i=0∨i=1∨i=2∨i=3∨i=4) with rfl | rfl | rfl | rfl | rfl <;> rfl
  have HU8:Hid (∀ i,U32 (z0p [x,9,8,7,6] i)):=word_u fun z hz=>by
   simp only[List.mem_cons,List.not_mem_nil,or_false] at hz
   rcases hz with rfl | rfl | rfl | rfl | rfl
   all_goals first | exact HX.out | exact⟨by decide,by decide⟩
  have HA8:Hid (Below w7.heap.size w7 (w7.alloc (.cells #[.int .u32 x,.int .u32 9,.int .u32 8,.int .u32 7,.int .u32 6] 31))):=(Below.refl _ _).alloc (Nat.le_refl _) _
  have HL8:w7.heap.size<(w7.alloc (.cells #[.int .u32 x,.int .u32 9,.int .u32 8,.int .u32 7,.int .u32 6] 31)).heap.size:=by rw[World.size_alloc];omega
  have HCN8:Hid _:=HK.out.new w7.heap.size 0 5 [x,9,8,7,6] (.slice none 0 0) [] _ (by simp) (by simp) HU8.out HL8 HC8.out (no_late _) (by decide)
  generalize w7.alloc (.cells #[.int .u32 x,.int .u32 9,.int .u32 8,.int .u32 7,.int .u32 6] 31)=V8 at *
  clear HL8 HC8
  refine Calls.mono HCN8.out ?_
  rintro e w9 ⟨p2,F2,rfl,h2,b9,q2⟩
  have P9:Hid (Pair Is w w9 p1 p2 F1 F2 (newC undef undef) (newC undef undef) [x,1,2,3,4] [x,9,8,7,6] [] []):=⟨HK.out.below (HK.out.below H7.out HA8.out) b9,h2,fun k h1 h3=>by have:=HK.out.lt (HK.out.below H7.out HA8.out) k h1;have:=q2 k h3;omega,A1.out,fun k hk=>Nat.le_trans (z0e B7.out HA8.out).size (q2 k hk),z0e (z0e B7.out HA8.out) b9⟩
  clear HCN8 HA8 b9 h2 q2 B7 H7 A1 CW HX
  have hq:=eqPtr
  go_wp2_with (first | (go_at_call 13;refine (zErr6 _ _).mono ?_;rintro e wq ⟨rfl,hwq⟩;rw[hwq];clear hwq wq))
  refine (CR1.out _ P9.out.bel).mono ?_
  rintro e w10 ⟨rfl,b10⟩
  have P10:Hid _:=P9.out.below HK.out b10
  clear b10 P9
  go_wp2_with fail
  refine (CR2.out _ P10.out.bel).mono ?_
  rintro e w11 ⟨rfl,b11⟩
  have P11:Hid _:=P10.out.below HK.out b11
  clear b11 P10 CR1 CR2
  have Z1:Hid (((w11.alloc (.cells (z0c (fun _=>0) false) 37)).alloc (.cells (z0c (fun _=>0) false) 37)).heap[w11.heap.size]?=some (.cells (z0c (fun _=>0) false) 37)):=z0m ((Below.refl _ _).alloc (Nat.le_refl _) _)
  have Z2:Hid (((w11.alloc (.cells (z0c (fun _=>0) false) 37)).alloc (.cells (z0c (fun _=>0) false) 37)).heap[w11.heap.size+1]?=some (.cells (z0c (fun _=>0) false) 37)):=by
   have:=z0g (w11.alloc (.cells (z0c (fun _=>0) false) 37)) (.cells (z0c (fun _=>0) false) 37)
   rw[World.size_alloc] at this
   exact this
  go_wp2_with (first | (refine wpList_store_row rfl 37 (.tmp 20) (.tmp 70) rfl w11.heap.size (z0c f1 false) rfl rfl 37 _ Z1.out (by rw[z0b];exact z0o) (by rw[z0b,z0b]) (z0s _ _) ?_) | (refine wpList_store_row rfl 37 (.tmp 21) (.tmp 72) rfl (w11.heap.size+1) (z0c f2 false) rfl rfl 37 _ ((setRow_other _ _ _ _ (by omega)).trans Z2.out) (by rw[z0b];exact z0o) (by rw[z0b,z0b]) (z0s _ _) ?_))
  have L0:Below w11.heap.size w11 ((((w11.alloc (.cells (z0c (fun _=>0) false) 37)).alloc (.cells (z0c (fun _=>0) false) 37)).setRow w11.heap.size (z0c f1 false)).setRow (w11.heap.size+1) (z0c f2 false)):=below_setRow (below_setRow box2 (Nat.le_refl _) _) (Nat.le_succ _) _
  have R0:Hid (TwoSt w11 w11.heap.size f1 f2 0 ((((w11.alloc (.cells (z0c (fun _=>0) false) 37)).alloc (.cells (z0c (fun _=>0) false) 37)).setRow w11.heap.size (z0c f1 false)).setRow (w11.heap.size+1) (z0c f2 false))):=
   ⟨by rw[lowF_zero];exact (setRow_other _ _ _ _ (by omega)).trans (setRow_heap _ _ _ _ _ _ Z1.out),by rw[lowF_zero];exact setRow_heap _ _ _ _ _ _ ((setRow_other _ _ _ _ (by omega)).trans Z2.out),L0⟩
  clear L0 Z1 Z2
  go_loopw [22] (fun i wr=>∃ k:Nat,k≤8∧i=.int .i64 k∧Hid (TwoSt w11 w11.heap.size f1 f2 k wr)) (fun i _=>8-(intOf i).toNat)
  case atStart=>exact⟨0,Nat.zero_le _,rfl,R0.out⟩
  case round=>
   clear R0
   obtain⟨k,hk,rfl,hr⟩:=hrel
   have T1:=hr.out.one
   have T2:=hr.out.two
   have TB:=hr.out.bel
   clear hr
   by_cases hlt:k<8
   ·have i5:(0:Int)≤(k:Int):=by omega
    have i7:(k:Int)<32:=by omega
    obtain⟨y1,hy1⟩:∃ y,y=lowF f1 k k:=⟨_,rfl⟩
    obtain⟨y2,hy2⟩:∃ y,y=lowF f2 k k:=⟨_,rfl⟩
    have u1:U32 y1:=by rw[hy1,lowF_at];exact HF1.out k
    have u2:U32 y2:=by rw[hy2,lowF_at];exact HF2.out k
    have m1:y1.tmod 4=y1%4:=Int.tmod_eq_emod_of_nonneg u1.1
    have m2:y2.tmod 4=y2%4:=Int.tmod_eq_emod_of_nonneg u2.1
    have v1:y1%4*4%4294967296=y1%4*4:=by omega
    have v2:y2%4*4%4294967296=y2%4*4:=by omega
    have HY1:Hid _:=hy1
    have HY2:Hid _:=hy2
    clear u1 u2
    go_wp2_with (first | (refine wpList_load_reg_is (by rfl) rfl rfl T1 (by omega) (by omega) HY1.out.symm ?_) | (refine z0h rfl rfl rfl rfl T1 (by omega) (by omega) ?_;intro wn T3 HO HL;have T4:=Eq.trans (HO (w11.heap.size+1) (by omega)) T2;have TL:=HL w11.heap.size w11 (Nat.le_refl _) TB;clear HO HL T1) | (refine wpList_load_reg_is (by rfl) rfl rfl T4 (by omega) (by omega) HY2.out.symm ?_) | (refine z0h rfl rfl rfl rfl T4 (by omega) (by omega) ?_;intro wm T5 HO HL;have T6:=Eq.trans (HO w11.heap.size (by omega)) T3;have TM:=HL w11.heap.size w11 (Nat.le_succ _) TL;clear HO HL T4))
    have HFN:Hid (TwoSt w11 w11.heap.size f1 f2 (k+1) wm):=⟨by
      have e:(lowF f1 k k).tmod 4*4%4294967296=f1 k%4*4:=by rw[lowF_at,Int.tmod_eq_emod_of_nonneg (HF1.out k).1];omega
      rw[← lowF_next,← e]
      exact T6,by
      have e:(lowF f2 k k).tmod 4*4%4294967296=f2 k%4*4:=by rw[lowF_at,Int.tmod_eq_emod_of_nonneg (HF2.out k).1];omega
      rw[← lowF_next,← e]
      exact T5,TM⟩
    exact⟨⟨k+1,hlt,by go_num,HFN.out⟩,by simp[intOf];omega⟩
   ·have hk8:k=8:=by omega
    subst hk8
    go_wp2_with (first | (refine z0h rfl rfl rfl rfl T1 (by decide) (by decide) ?_;intro wn T3 HO HL;have T4:=Eq.trans (HO (w11.heap.size+1) (by omega)) T2;have TL:=HL w11.heap.size w11 (Nat.le_refl _) TB;clear HO HL T1) | (refine z0h rfl rfl rfl rfl T4 (by decide) (by decide) ?_;intro wm T5 HO HL;have T6:=Eq.trans (HO w11.heap.size (by omega)) T3;have TM:=HL w11.heap.size w11 (Nat.le_succ _) TL;clear HO HL T4) | (refine z7d (by rfl) 37 (.tmp 20) rfl w11.heap.size rfl 37 (z0c _ false) _ T6 HS.out rfl (by rw[z0b];exact z0o) ?_))
    have P12:Hid _:=P11.out.below HK.out TM
    refine Calls.mono (HK.out.put P12.out.one (set1 (lowF f1 8) 32 0) false (z4m (lowF_u HF1.out 8) 32 ⟨by decide,by decide⟩)) ?_
    rintro e w13 ⟨rfl,G1,h13,c13,s13⟩
    have P13:Hid _:=P12.out.first HK.out h13 c13 s13
    have T7:=c13.kept T5 (fun e=>by have:=HK.out.lt P11.out.one _ e;omega)
    clear h13 c13 s13 P12 T5 T6 TM T3 TL TB T2
    go_wp2_with (first | (refine z7d (by rfl) 37 (.tmp 21) rfl (w11.heap.size+1) rfl 37 (z0c _ false) _ T7 HS.out rfl (by rw[z0b];exact z0o) ?_))
    refine Calls.mono (HK.out.put P13.out.two (set1 (lowF f2 8) 32 0) false (z4m (lowF_u HF2.out 8) 32 ⟨by decide,by decide⟩)) ?_
    rintro e w14 ⟨rfl,G2,h14,c14,s14⟩
    have P14:Hid (Pair Is w w14 p1 p2 G1 G2 (putS f1) (putS f2) [x,1,2,3,4] [x,9,8,7,6] [] []):=P13.out.second HK.out h14 c14 s14
    clear h14 c14 s14 P13 T7 P11
    obtain⟨t1,x1⟩:=COST.out f1 [1,2,3,4] rfl HU5.out
    obtain⟨t2,x2⟩:=COST.out f2 [9,8,7,6] rfl HU8.out
    have GO1:Hid _:=go_put HF1.out HU5.out rfl
    have GO2:Hid _:=go_put HF2.out HU8.out rfl
    have E1:Hid _:=And.intro t1 x1
    have E2:Hid _:=And.intro t2 x2
    clear t1 x1 t2 x2 COST HU5 HU8
    go_wp2_with fail
    refine Calls.mono (HK.out.step P14.out.one GO1.out) ?_
    rintro e w15 ⟨rfl,G3,h15,c15,s15⟩
    have P15:Hid _:=P14.out.first HK.out h15 c15 s15
    clear h15 c15 s15 P14 GO1
    go_wp2_with fail
    refine Calls.mono (HK.out.step P15.out.two GO2.out) ?_
    rintro e w16 ⟨rfl,G4,h16,c16,s16⟩
    have P16:Hid _:=P15.out.second HK.out h16 c16 s16
    clear h16 c16 s16 P15 GO2
    have CT1:Hid (∀ W,Below w16.heap.size w16 W→Calls Tryz.prog 17 #[.pointer (some ⟨p1,0,none⟩)] W fun e w'=>e=.returned (.int .i64 ct)∧Below W.heap.size W w'):=fun W hW=>by
     have:=HK.out.time (P16.out.below HK.out hW).one
     rw[E1.out.1] at this
     exact this
    have CT2:Hid (∀ W,Below w16.heap.size w16 W→Calls Tryz.prog 17 #[.pointer (some ⟨p2,0,none⟩)] W fun e w'=>e=.returned (.int .i64 ct)∧Below W.heap.size W w'):=fun W hW=>by
     have:=HK.out.time (P16.out.below HK.out hW).two
     rw[E2.out.1] at this
     exact this
    have CX:Hid (∀ W,Below w16.heap.size w16 W→Calls Tryz.prog 18 #[.pointer (some ⟨p1,0,none⟩)] W fun e w'=>e=.returned (.agg (z0c (z3i [] (putS f1) [x,1,2,3,4] []).1.f (z3i [] (putS f1) [x,1,2,3,4] []).1.u))∧Below W.heap.size W w'):=fun W hW=>HK.out.regs (P16.out.below HK.out hW).one
    have x0:=E1.out.2
    generalize (z3i [] (putS f1) [x,1,2,3,4] []).1.f=ff at *
    generalize (z3i [] (putS f1) [x,1,2,3,4] []).1.u=uu at *
    have B16:Hid _:=P16.out.bel
    have hpos:=HCT.out
    have hfx:=field_X ff uu
    have hix:=index_X ff uu
    clear P16 E1 E2
    go_wp2_with fail
    refine (CT1.out _ (Below.refl _ _)).mono ?_
    rintro e w17 ⟨rfl,c17⟩
    have C17:Hid _:=c17
    clear c17
    go_wp2_with fail
    refine (CT2.out _ C17.out).mono ?_
    rintro e w18 ⟨rfl,c18⟩
    have C18:Hid _:=z0e C17.out c18
    clear c18 C17 CT2
    go_wp2_with fail
    refine (CT1.out _ C18.out).mono ?_
    rintro e w19 ⟨rfl,c19⟩
    have C19:Hid _:=z0e C18.out c19
    clear c19 C18 CT1
    go_wp2_with fail
    refine (CX.out _ C19.out).mono ?_
    rintro e w20 ⟨rfl,c20⟩
    have C20:Hid _:=z0e C19.out c20
    clear c20 C19 CX
    go_wp2_with fail
    refine Calls.mono (kawake6 HK.out _) ?_
    rintro e w21 ⟨rfl,c21⟩
    have C21:Hid _:=z0e B16.out (z0e C20.out c21)
    clear c21 C20 B16
    go_wp2
    go_ret
    exact⟨rfl,C21.out⟩
theorem coreCosts {Is:z6d} (K:CoreK Is) (wh d a b m:Int) (hwh:0≤wh∧wh≤255) (hd:0≤d∧d≤255) (ha:0≤a∧a≤255) (hb:0≤b∧b≤255) (hm:-2147483648≤m∧m≤2147483647) (a1:Option Addr) (n1 cap1:Nat) (zs1:List Int) (a2:Option Addr) (n2 cap2:Nat) (zs2:List Int) (w:World)
  (hz:(a1=none∧n1=0∧cap1=0∧zs1=[])∨∃ q,a1=some q∧n1≤cap1∧cap1≤maxLen∧zs1.length=cap1∧(∀ i,i<zs1.length→w.cell? (q.add i)=some (.int .u32 (zs1.getD i 0)))∧∀ z∈zs1,(Lit.int .u32 z).wf=true)
  (hz':(a2=none∧n2=0∧cap2=0∧zs2=[])∨∃ q,a2=some q∧n2≤cap2∧cap2≤maxLen∧zs2.length=cap2∧(∀ i,i<zs2.length→w.cell? (q.add i)=some (.int .u32 (zs2.getD i 0)))∧∀ z∈zs2,(Lit.int .u32 z).wf=true) :
  Calls Tryz.prog 3 #[.int .u8 wh,.int .u8 d,.int .u8 a,.int .u8 b,.int .i32 m,.slice a1 n1 cap1,.slice a2 n2 cap2] w fun e w'=>e=.returned (.bool true)∧Below w.heap.size w w':=by
 obtain⟨c1,off1,h1,h2,h3,h4⟩:=z9d hz
 obtain⟨c2,off2,k1,k2,k3,k4⟩:=z9d hz'
 exact coreCosts_way K wh d a b m hwh hd ha hb hm a1 n1 cap1 zs1 a2 n2 cap2 zs2 w c1 off1 c2 off2 h1 h2 h3 h4 k1 k2 k3 k4
end Go.Proofs.YtilcoimelnpkeaaGreatDoor
