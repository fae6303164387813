/-
  Contracts of functions that the statement reaches, and what they are made of, callees first.
-/
import Derived.Test.YtbmnmbkgdalkcaaGreatDoorPza
import Derived.Test.YtbmnmbkgdalkcaaGreatDoorPzd
import Derived.Test.YtbmnmbkgdalkcaaGreatDoorPze
import Derived.Test.YtbmnmbkgdalkcaaGreatDoorPzo
set_option maxRecDepth 100000
set_option maxHeartbeats 8000000
namespace Go.Proofs.YtbmnmbkgdalkcaaGreatDoor
open Go.RowKit
theorem get_mem {x:Int} {i:MIns} (h:getV x=some i):∃ q,q∈z3w∧hasB q.2 x=true∧i=z8i q x:=by
 unfold getV at h
 cases hq:z3w.find? (fun q=>hasB q.2 x) with
 | none=>rw[hq] at h;cases h
 | some q=>
  rw[hq] at h
  injection h with h
  exact⟨q,List.mem_of_find?_eq_some hq,by have:=List.find?_some hq;exact this,h.symm⟩
theorem z8s {x:Int} {i:MIns} (h:getV x=some i):(i.op,z0q i.op)∈z3w:=by
 obtain⟨q,h1,_,rfl⟩:=get_mem h
 show (q.1,z0q q.1)∈z3w
 rw[z4s h1]
 exact h1
theorem get_fields {x:Int} {i:MIns} (hx:U32 x) (h:getV x=some i):(0≤i.d∧i.d<32)∧(0≤i.a∧i.a<32)∧(0≤i.b∧i.b<32)∧((z0q i.op).k=67→0≤i.m∧i.m<4096):=by
 obtain⟨q,h1,_,rfl⟩:=get_mem h
 obtain⟨x0,x1⟩:=hx
 refine⟨?_,?_,?_,?_⟩
 ·show 0≤z2h q.2.k x∧z2h q.2.k x<32
  unfold z2h;split <;> omega
 ·show 0≤z2j q.2.k x∧z2j q.2.k x<32
  unfold z2j;split <;> omega
 ·show 0≤z2i q.2.k x∧z2i q.2.k x<32
  unfold z2i;split <;> omega
 ·intro hk
  have hk:q.2.k=67:=by rw[← z4s h1];exact hk
  show 0≤z2a q.2.k x∧z2a q.2.k x<4096
  unfold z2a
  rw[hk]
  simp
  omega
theorem bytes_of {s:ByteArray} {l:List UInt8} (h:s.toList=l):s=⟨l.toArray⟩:=by
 apply bytes_ext
 rw[h,ByteArray.toList_eq]
theorem z8g {x:Int} (hx:U32 x) {i:MIns} (h:getV x=some i) (w:World) :
  Calls Tryz.prog 51 #[.int .u32 x] w fun e w'=>e=.returned (.agg #[.string ⟨i.op.toArray⟩,.int .i64 i.d,.int .i64 i.a,.int .i64 i.b,.int .i32 i.m,.bool true])∧Below w.heap.size w w':=by
 refine (rGet x hx w).mono fun e w' ⟨s,d,a,b,m,ok,he,ht,hb⟩=>⟨?_,hb⟩
 rcases ht with ⟨h1,h2⟩ | ⟨_,_,_,_,_,_,h2⟩
 ·rw[h] at h2
  injection h2 with h2
  subst h2
  rw[he,h1,← bytes_of (s:=s) rfl]
 ·rw[h] at h2;cases h2
theorem rGetN {x:Int} (hx:U32 x) (h:getV x=none) (w:World) :
  Calls Tryz.prog 51 #[.int .u32 x] w fun e w'=>e=.returned (.agg #[.string ⟨#[]⟩,.int .i64 0,.int .i64 0,.int .i64 0,.int .i32 0,.bool false])∧Below w.heap.size w w':=by
 refine (rGet x hx w).mono fun e w' ⟨s,d,a,b,m,ok,he,ht,hb⟩=>⟨?_,hb⟩
 rcases ht with ⟨h1,h2⟩ | ⟨h1,h2,h3,h4,h5,h6,h7⟩
 ·rw[h] at h2;cases h2
 ·rw[he,h1,h2,h3,h4,h5,h6]
theorem z3j (nm:List UInt8) (w:World) :
  Calls Tryz.prog 19 #[.string ⟨nm.toArray⟩] w fun e w'=>e=.returned (.int .u8 (z0q nm).k)∧Below w.heap.size w w':=by
 have C1:Hid _:=z2v ⟨nm.toArray⟩ (z0q nm).k (z0q nm).o (z0q nm).g (z0q nm).f (by rw[ByteArray.toList_eq])
 generalize (z0q nm).k=k at *
 generalize (z0q nm).o=o at *
 generalize (z0q nm).g=g at *
 generalize (z0q nm).f=f at *
 have hk:=fldk (.int .u8 k) (.int .u32 o) (.int .u32 g) (.int .u32 f)
 go_enter Tryz.func19,Tryz.ntmps19
 go_wp2_with fail
 refine (C1.out _).mono ?_
 rintro e w1 ⟨rfl,hw1⟩
 have B1:Below w.heap.size w w1:=by rw[hw1];exact (Below.refl _ _).alloc (Nat.le_refl _) _
 clear hw1
 go_wp2
 go_ret
 exact⟨rfl,B1⟩
theorem z2p {l:List Int} {p:Int} (h:askV l.length p 4=0):z2r l.length l p 4 false=z1l l p 4 false:=by unfold z2r;rw[if_pos h]
theorem z2l (l:List Int) (p n:Int):U32 (z1l l p n false):=z4n _ _ _
theorem coreG_x (s:CS) (k:Nat) (h:k<32):z0l s (1+k)=.int .u32 (s.f k):=by
 unfold z0l
 rw[if_neg (by omega),if_pos (by omega),Nat.add_sub_cancel_left]
 unfold rv
 rw[if_neg (by omega)]
theorem z0i.x {w:World} {c:Nat} {s:CS} (h:z0i w c s) (k:Nat) (hk:k<32):w.cell? ⟨c,1+k,none⟩=some (.int .u32 (s.f k)):=by
 rw[h.cell (1+k) (by omega),coreG_x s k hk]
theorem z0i.putx {w:World} {c:Nat} {s:CS} (h:z0i w c s) (k:Nat) (hk:k<32) (x:Int):z0i (w.setCell ⟨c,1+k,none⟩ (.int .u32 x)) c { s with f:=set1 s.f k x }:=by
 rw[Nat.add_comm]
 exact h.put (k+1) _ (fun j _=>z8u s k (by omega) (by omega) x j)
structure Told (w W:World) (c:Nat) (s:CS) (bi bg:Nat) (nm:List UInt8) (d a b:Nat) (m x:Int):Prop where
  core:z0i W c s
  chg : Chg (· = c) w W
  ins:W.heap[bi]?=some (.cells #[.string ⟨nm.toArray⟩,.int .i64 d,.int .i64 a,.int .i64 b,.int .i32 m] 52)
  got:W.heap[bg]?=some (.cells #[.int .u32 x,.int .i64 0] 81)
  ni:bi≠c
  ng:bg≠c
theorem Told.below {w W W':World} {c:Nat} {s:CS} {bi bg:Nat} {nm:List UInt8} {d a b:Nat} {m x:Int} (h:Told w W c s bi bg nm d a b m x) (hb:Below W.heap.size W W'):Told w W' c s bi bg nm d a b m x:=
 ⟨h.core.below hb,h.chg.step hb,z0f h.ins hb,z0f h.got hb,h.ni,h.ng⟩
theorem rKindC (s:ByteArray) (k o g f:Int) (hp:z0q s.toList=⟨k,o,g,f⟩) (w:World) :
  Calls Tryz.prog 19 #[.string s] w fun e w'=>e=.returned (.int .u8 k)∧Below w.heap.size w w':=by
 have C1:Hid _:=z2v s k o g f hp
 have hk:=fldk (.int .u8 k) (.int .u32 o) (.int .u32 g) (.int .u32 f)
 go_enter Tryz.func19,Tryz.ntmps19
 go_wp2_with fail
 refine (C1.out _).mono ?_
 rintro e w1 ⟨rfl,hw1⟩
 have B1:Below w.heap.size w w1:=by rw[hw1];exact (Below.refl _ _).alloc (Nat.le_refl _) _
 clear hw1
 go_wp2
 go_ret
 exact⟨rfl,B1⟩
def z4t (B:List UInt8) (ct:Int):Prop:=
 ((B==[109,117,108])=false∧(B==[109,117,108,104])=false∧(B==[109,117,108,104,115,117])=false∧(B==[109,117,108,104,117])=false∧(B==[100,105,118])=false∧(B==[100,105,118,117])=false∧(B==[114,101,109])=false∧(B==[114,101,109,117])=false∧ct=1)∨
 ((B==[109,117,108])=true∧ct=3)∨
 ((B==[109,117,108])=false∧(B==[109,117,108,104])=true∧ct=3)∨
 ((B==[109,117,108])=false∧(B==[109,117,108,104])=false∧(B==[109,117,108,104,115,117])=true∧ct=3)∨
 ((B==[109,117,108])=false∧(B==[109,117,108,104])=false∧(B==[109,117,108,104,115,117])=false∧(B==[109,117,108,104,117])=true∧ct=3)∨
 ((B==[109,117,108])=false∧(B==[109,117,108,104])=false∧(B==[109,117,108,104,115,117])=false∧(B==[109,117,108,104,117])=false∧(B==[100,105,118])=true∧ct=20)∨
 ((B==[109,117,108])=false∧(B==[109,117,108,104])=false∧(B==[109,117,108,104,115,117])=false∧(B==[109,117,108,104,117])=false∧(B==[100,105,118])=false∧(B==[100,105,118,117])=true∧ct=20)∨
 ((B==[109,117,108])=false∧(B==[109,117,108,104])=false∧(B==[109,117,108,104,115,117])=false∧(B==[109,117,108,104,117])=false∧(B==[100,105,118])=false∧(B==[100,105,118,117])=false∧(B==[114,101,109])=true∧ct=20)∨
 ((B==[109,117,108])=false∧(B==[109,117,108,104])=false∧(B==[109,117,108,104,115,117])=false∧(B==[109,117,108,104,117])=false∧(B==[100,105,118])=false∧(B==[100,105,118,117])=false∧(B==[114,101,109])=false∧(B==[114,101,109,117])=true∧ct=20)
theorem z8h (nm : List UInt8) (ct : Int) (hfo : z0q nm = ⟨82, (z0q nm).o, (z0q nm).g, (z0q nm).f⟩) (hct : z4t nm ct) {w : World} {c : Nat} {s : CS} (h : z0i w c s) (ht : 0 ≤ s.t) (ht' : s.t ≤ 1152921504606846976) (rd : Nat) (hrd : rd < 32) (r1 r2 m a b : Int) (ha : U32 a) (hb : U32 b) :
    Calls Tryz.prog 59 #[.pointer (some ⟨c, 0, none⟩), .agg #[.string ⟨nm.toArray⟩, .int .i64 rd, .int .i64 r1, .int .i64 r2, .int .i32 m], .int .u32 a, .int .u32 b] w fun e w' => e = .returned (.tuple #[]) ∧ z0i w' c (opS s nm rd a b ct) ∧ Chg (· = c) w w' := by
  have HC:Hid (z0i w c s):=h
  have HT:Hid _:=ht
  have HT':Hid _:=ht'
  have hmo:Tryz.prog.follows .mixedOrders=true:=by kernel_rfl
  have tl:(ByteArray.toList ⟨nm.toArray⟩)=nm:=by rw[ByteArray.toList_eq]
  have CK:Hid (∀ w,Calls Tryz.prog 19 #[.string ⟨nm.toArray⟩] w fun e w'=>e=.returned (.int .u8 82)∧Below w.heap.size w w'):=fun w=>rKindC ⟨nm.toArray⟩ 82 (z0q nm).o (z0q nm).g (z0q nm).f (by rw[tl];exact hfo) w
  have CO:Hid (∀ w,Calls Tryz.prog 54 #[.string ⟨nm.toArray⟩,.int .u32 a,.int .u32 b] w fun e w'=>e=.returned (.agg #[.int .u32 (opN nm a b),.int .i64 (opE nm)])∧Below w.heap.size w w'):=fun w=>by have:=rOp ⟨nm.toArray⟩ a b ha hb w;rw[tl] at this;exact this
  have HV:Hid (opS s nm rd a b ct=z2k { s with f:=set1 s.f rd (opN nm a b) } ((s.f 32+4)%4294967296) ct):=rfl
  have r0:(0:Int)≤(rd:Int):=by omega
  have r1':(rd:Int)<32:=by omega
  clear h ht ht' tl hfo
  unfold z4t at hct
  generalize opS s nm rd a b ct=S' at *
  generalize opN nm a b=N at *
  generalize opE nm=E at *
  rcases hct with ⟨b0,b1,b2,b3,b4,b5,b6,b7,rfl⟩ | ⟨b0,rfl⟩ | ⟨b0,b1,rfl⟩ | ⟨b0,b1,b2,rfl⟩ | ⟨b0,b1,b2,b3,rfl⟩ | ⟨b0,b1,b2,b3,b4,rfl⟩ | ⟨b0,b1,b2,b3,b4,b5,rfl⟩ | ⟨b0,b1,b2,b3,b4,b5,b6,rfl⟩ | ⟨b0,b1,b2,b3,b4,b5,b6,b7,rfl⟩
  all_goals
    go_enter Tryz.func59,Tryz.ntmps59
    go_wp2_with fail
    have I1:=z0g w (.cells #[.string ⟨nm.toArray⟩,.int .i64 rd,.int .i64 r1,.int .i64 r2,.int .i32 m] 52)
    have H1:Hid (z0i (w.alloc (.cells #[.string ⟨nm.toArray⟩,.int .i64 rd,.int .i64 r1,.int .i64 r2,.int .i32 m] 52)) c s):=HC.out.below ((Below.refl _ _).alloc (Nat.le_refl _) _)
    have G1 : Hid (Chg (· = c) w (w.alloc (.cells #[.string ⟨nm.toArray⟩, .int .i64 rd, .int .i64 r1, .int .i64 r2, .int .i32 m] 52))) := (Chg.refl _ _).alloc _
    have hci:w.heap.size≠c:=by have:=HC.out.lt;omega
    generalize w.alloc (.cells #[.string ⟨nm.toArray⟩,.int .i64 rd,.int .i64 r1,.int .i64 r2,.int .i32 m] 52)=V at *
    generalize w.heap.size=bi at *
    refine (CK.out _).mono ?_
    rintro e w2 ⟨rfl,b2⟩
    have H2:Hid (z0i w2 c s):=H1.out.below b2
    have G2 : Hid (Chg (· = c) w w2) := G1.out.step b2
    have I2:=z0f I1 b2
    clear b2 H1 G1 I1 CK
    obtain⟨ic,_,il⟩:=z0a I2
    have i0:=ic 0 (.string ⟨nm.toArray⟩) rfl
    have i1:=ic 1 (.int .i64 rd) rfl
    have i4:=ic 4 (.int .i32 m) rfl
    clear ic
    go_wp2_with fail
    refine z1b 12 [] [.pointer (some ⟨c,0,none⟩),.pointer (some ⟨bi,1,none⟩),.int .i64 rd,.string ⟨nm.toArray⟩,.int .u32 a,.int .u32 b,.agg #[.int .u32 N,.int .i64 E],.int .u32 N,.pointer (some ⟨c,0,none⟩),.pointer (some ⟨c,1,none⟩),.pointer (some ⟨c,1,none⟩),.pointer (some ⟨c,1+rd,none⟩)] hmo (by kernel_rfl) (by kernel_rfl) (by intro r hr;cases hr) ?_ (by intro r hr;cases hr) (by intro r hr;cases hr) ?_
    · generalize hl:lay _ _ _=af
      have e0:af.tmps[0]?.getD undef=.pointer (some ⟨c,0,none⟩):=by rw[← hl];kernel_rfl
      have e2:af.tmps[2]?.getD undef=.int .u32 a:=by rw[← hl];kernel_rfl
      have e3:af.tmps[3]?.getD undef=.int .u32 b:=by rw[← hl];kernel_rfl
      have e5:af.tmps[5]?.getD undef=.pointer (some ⟨bi,0,none⟩):=by rw[← hl];kernel_rfl
      have e8:af.tmps[8]?.getD undef=.string ⟨nm.toArray⟩:=by rw[← hl];kernel_rfl
      have e40:af.tmps[40]?.getD undef=.pointer (some ⟨c,0,none⟩):=by rw[← hl];kernel_rfl
      have e41:af.tmps[41]?.getD undef=.pointer (some ⟨bi,1,none⟩):=by rw[← hl];kernel_rfl
      have e42:af.tmps[42]?.getD undef=.int .i64 rd:=by rw[← hl];kernel_rfl
      have e43:af.tmps[43]?.getD undef=.string ⟨nm.toArray⟩:=by rw[← hl];kernel_rfl
      have e44:af.tmps[44]?.getD undef=.int .u32 a:=by rw[← hl];kernel_rfl
      have e45:af.tmps[45]?.getD undef=.int .u32 b:=by rw[← hl];kernel_rfl
      have e46:af.tmps[46]?.getD undef=.agg #[.int .u32 N,.int .i64 E]:=by rw[← hl];kernel_rfl
      have e48:af.tmps[48]?.getD undef=.pointer (some ⟨c,0,none⟩):=by rw[← hl];kernel_rfl
      have e49:af.tmps[49]?.getD undef=.pointer (some ⟨c,1,none⟩):=by rw[← hl];kernel_rfl
      have e50:af.tmps[50]?.getD undef=.pointer (some ⟨c,1,none⟩):=by rw[← hl];kernel_rfl
      clear hl
      have fd:=fld0 (.int .u32 N) (.int .i64 E)
      refine And.intro (fun w' hw=>z0d (by simp[execOp,go_sem,e0])) ?_
      refine And.intro (fun w' hw=>z0d (by simp[execOp,go_sem,e5])) ?_
      refine And.intro (fun w' hw=>by
        have c1:=(z0a (z0f I2 hw)).1 1 (.int .i64 rd) rfl
        exact z0d (by simp[execOp,go_sem,e41,c1])) ?_
      refine And.intro (fun w' hw=>z0d (by simp[execOp,go_sem,e8])) ?_
      refine And.intro (fun w' hw=>z0d (by simp[execOp,go_sem,e2])) ?_
      refine And.intro (fun w' hw=>z0d (by simp[execOp,go_sem,e3])) ?_
      refine And.intro (fun w' hw=>z1k 54 #[.string ⟨nm.toArray⟩,.int .u32 a,.int .u32 b] (by simp[go_sem,e43,e44,e45]) (CO.out _)) ?_
      refine And.intro (fun w' hw=>z0d (by simp[execOp,go_sem,e46,fd])) ?_
      refine And.intro (fun w' hw=>z0d (by simp[execOp,go_sem,e40])) ?_
      refine And.intro (fun w' hw=>z0d (by simp[execOp,go_sem,e48])) ?_
      refine And.intro (fun w' hw=>z0d (by simp[execOp,go_sem,e49])) ?_
      refine And.intro (fun w' hw=>z0d (by simp[execOp,go_sem,e50,e42,r0,r1'])) ?_
      exact True.intro
    · intro β3 W3 hW3 _ _
      have H3:Hid (z0i W3 c s):=H2.out.below hW3
      have G3 : Hid (Chg (· = c) w W3) := G2.out.step hW3
      clear hW3 H2 G2 I2 i0 i1 i4 il CO hmo
      have cr:=H3.out.cell (rd+1) (by omega)
      have er:z0l s (rd+1)=.int .u32 (s.f rd):=by
        unfold z0l
        rw[if_neg (by omega),if_pos (by omega)]
        unfold rv
        rw[if_neg (by omega),Nat.add_sub_cancel]
      rw[er,Nat.add_comm] at cr
      have fr:=H3.out.free (1+rd)
      have H6:Hid (z0i (W3.setCell ⟨c,1+rd,none⟩ (.int .u32 N)) c { s with f:=set1 s.f rd N }):=by
        rw[Nat.add_comm]
        exact H3.out.put (rd+1) _ (fun j _=>z8u s rd (by omega) (by omega) N j)
      have G6 : Hid (Chg (· = c) w (W3.setCell ⟨c, 1 + rd, none⟩ (.int .u32 N))) := G3.out.own _
      have c33:=H6.out.cell 33 (by decide)
      have e33:z0l { s with f:=set1 s.f rd N } 33=.int .u32 (s.f 32):=by
        show Value.int .u32 (set1 s.f rd N 32)=_
        unfold set1
        rw[if_neg (by omega)]
      rw[e33] at c33
      have CN:Hid _:=fun pc k (h0:0≤k) (h1:k≤1000)=>z4l H6.out pc k HT.out HT'.out h0 (by omega)
      clear e33 er H6 H3 G3
      generalize s.f 32=q at *
      simp[z3o,lay,Act.put]
      go_wp2_with fail
      refine (CN.out _ _ (by decide) (by decide)).mono ?_
      rintro e w7 ⟨rfl,h7,g7⟩
      have H7:Hid _:=h7
      have G7:Hid _:=G6.out.trans g7
      clear h7 g7 CN G6
      go_wp2
      go_end0
      exact⟨rfl,by rw[HV.out];exact H7.out,G7.out⟩
theorem mop_I (nm bs : List UInt8) (kk : Int) (hkk : (kk == 82) = false) (hlen : nm.length = bs.length + 1) (hl3 : bs.length ≤ 100) (ex : ByteArray.extract ⟨nm.toArray⟩ 0 bs.length = ⟨bs.toArray⟩) (hsl : (nm == [115, 108, 116, 105, 117]) = false) (hfo : z0q nm = ⟨kk, (z0q nm).o, (z0q nm).g, (z0q nm).f⟩) (b0 : (bs == [109, 117, 108]) = false) (b1 : (bs == [109, 117, 108, 104]) = false) (b2 : (bs == [109, 117, 108, 104, 115, 117]) = false) (b3 : (bs == [109, 117, 108, 104, 117]) = false) (b4 : (bs == [100, 105, 118]) = false) (b5 : (bs == [100, 105, 118, 117]) = false) (b6 : (bs == [114, 101, 109]) = false) (b7 : (bs == [114, 101, 109, 117]) = false) {w : World} {c : Nat} {s : CS} (h : z0i w c s) (ht : 0 ≤ s.t) (ht' : s.t ≤ 1152921504606846976) (rd : Nat) (hrd : rd < 32) (r1 r2 m a b : Int) (ha : U32 a) :
    Calls Tryz.prog 59 #[.pointer (some ⟨c, 0, none⟩), .agg #[.string ⟨nm.toArray⟩, .int .i64 rd, .int .i64 r1, .int .i64 r2, .int .i32 m], .int .u32 a, .int .u32 b] w fun e w' => e = .returned (.tuple #[]) ∧ z0i w' c (opS s bs rd a (m % 4294967296) 1) ∧ Chg (· = c) w w' := by
  have HC:Hid (z0i w c s):=h
  have HT:Hid _:=ht
  have HT':Hid _:=ht'
  have hmo:Tryz.prog.follows .mixedOrders=true:=by kernel_rfl
  have tl:(ByteArray.toList ⟨nm.toArray⟩)=nm:=by rw[ByteArray.toList_eq]
  have tb:(ByteArray.toList ⟨bs.toArray⟩)=bs:=by rw[ByteArray.toList_eq]
  have CK:Hid (∀ w,Calls Tryz.prog 19 #[.string ⟨nm.toArray⟩] w fun e w'=>e=.returned (.int .u8 kk)∧Below w.heap.size w w'):=fun w=>rKindC ⟨nm.toArray⟩ kk (z0q nm).o (z0q nm).g (z0q nm).f (by rw[tl];exact hfo) w
  have CO:Hid (∀ w,Calls Tryz.prog 54 #[.string ⟨bs.toArray⟩,.int .u32 a,.int .u32 (m%4294967296)] w fun e w'=>e=.returned (.agg #[.int .u32 (opN bs a (m%4294967296)),.int .i64 (opE bs)])∧Below w.heap.size w w'):=fun w=>by have:=rOp ⟨bs.toArray⟩ a (m%4294967296) ha ⟨by omega,by omega⟩ w;rw[tb] at this;exact this
  have HV:Hid (opS s bs rd a (m%4294967296) 1=z2k { s with f:=set1 s.f rd (opN bs a (m%4294967296)) } ((s.f 32+4)%4294967296) 1):=rfl
  have r0:(0:Int)≤(rd:Int):=by omega
  have r1':(rd:Int)<32:=by omega
  clear h ht ht' tl tb hfo
  generalize opS s bs rd a (m%4294967296) 1=S' at *
  generalize opN bs a (m%4294967296)=N at *
  generalize opE bs=E at *
  go_enter Tryz.func59,Tryz.ntmps59
  go_wp2_with fail
  have I1:=z0g w (.cells #[.string ⟨nm.toArray⟩,.int .i64 rd,.int .i64 r1,.int .i64 r2,.int .i32 m] 52)
  have H1:Hid (z0i (w.alloc (.cells #[.string ⟨nm.toArray⟩,.int .i64 rd,.int .i64 r1,.int .i64 r2,.int .i32 m] 52)) c s):=HC.out.below ((Below.refl _ _).alloc (Nat.le_refl _) _)
  have G1 : Hid (Chg (· = c) w (w.alloc (.cells #[.string ⟨nm.toArray⟩, .int .i64 rd, .int .i64 r1, .int .i64 r2, .int .i32 m] 52))) := (Chg.refl _ _).alloc _
  have hci:w.heap.size≠c:=by have:=HC.out.lt;omega
  generalize w.alloc (.cells #[.string ⟨nm.toArray⟩,.int .i64 rd,.int .i64 r1,.int .i64 r2,.int .i32 m] 52)=V at *
  generalize w.heap.size=bi at *
  refine (CK.out _).mono ?_
  rintro e w2 ⟨rfl,b2⟩
  have H2:Hid (z0i w2 c s):=H1.out.below b2
  have G2 : Hid (Chg (· = c) w w2) := G1.out.step b2
  have I2:=z0f I1 b2
  clear b2 H1 G1 I1 CK
  obtain⟨ic,_,il⟩:=z0a I2
  have i0:=ic 0 (.string ⟨nm.toArray⟩) rfl
  have i1:=ic 1 (.int .i64 rd) rfl
  have i4:=ic 4 (.int .i32 m) rfl
  clear ic
  go_wp2_with fail
  refine z1b 12 [] [.pointer (some ⟨c,0,none⟩),.pointer (some ⟨bi,1,none⟩),.int .i64 rd,.string ⟨bs.toArray⟩,.int .u32 a,.int .u32 (m%4294967296),.agg #[.int .u32 N,.int .i64 E],.int .u32 N,.pointer (some ⟨c,0,none⟩),.pointer (some ⟨c,1,none⟩),.pointer (some ⟨c,1,none⟩),.pointer (some ⟨c,1+rd,none⟩)] hmo (by kernel_rfl) (by kernel_rfl) (by intro r hr;cases hr) ?_ (by intro r hr;cases hr) (by intro r hr;cases hr) ?_
  · generalize hl:lay _ _ _=af
    have e0:af.tmps[0]?.getD undef=.pointer (some ⟨c,0,none⟩):=by rw[← hl];kernel_rfl
    have e2:af.tmps[2]?.getD undef=.int .u32 a:=by rw[← hl];kernel_rfl
    have e3:af.tmps[3]?.getD undef=.int .u32 (m%4294967296):=by rw[← hl];kernel_rfl
    have e5:af.tmps[5]?.getD undef=.pointer (some ⟨bi,0,none⟩):=by rw[← hl];kernel_rfl
    have e8:af.tmps[8]?.getD undef=.string ⟨bs.toArray⟩:=by rw[← hl];kernel_rfl
    have e40:af.tmps[40]?.getD undef=.pointer (some ⟨c,0,none⟩):=by rw[← hl];kernel_rfl
    have e41:af.tmps[41]?.getD undef=.pointer (some ⟨bi,1,none⟩):=by rw[← hl];kernel_rfl
    have e42:af.tmps[42]?.getD undef=.int .i64 rd:=by rw[← hl];kernel_rfl
    have e43:af.tmps[43]?.getD undef=.string ⟨bs.toArray⟩:=by rw[← hl];kernel_rfl
    have e44:af.tmps[44]?.getD undef=.int .u32 a:=by rw[← hl];kernel_rfl
    have e45:af.tmps[45]?.getD undef=.int .u32 (m%4294967296):=by rw[← hl];kernel_rfl
    have e46:af.tmps[46]?.getD undef=.agg #[.int .u32 N,.int .i64 E]:=by rw[← hl];kernel_rfl
    have e48:af.tmps[48]?.getD undef=.pointer (some ⟨c,0,none⟩):=by rw[← hl];kernel_rfl
    have e49:af.tmps[49]?.getD undef=.pointer (some ⟨c,1,none⟩):=by rw[← hl];kernel_rfl
    have e50:af.tmps[50]?.getD undef=.pointer (some ⟨c,1,none⟩):=by rw[← hl];kernel_rfl
    clear hl
    have fd:=fld0 (.int .u32 N) (.int .i64 E)
    refine And.intro (fun w' hw=>z0d (by simp[execOp,go_sem,e0])) ?_
    refine And.intro (fun w' hw=>z0d (by simp[execOp,go_sem,e5])) ?_
    refine And.intro (fun w' hw=>by
      have c1:=(z0a (z0f I2 hw)).1 1 (.int .i64 rd) rfl
      exact z0d (by simp[execOp,go_sem,e41,c1])) ?_
    refine And.intro (fun w' hw=>z0d (by simp[execOp,go_sem,e8])) ?_
    refine And.intro (fun w' hw=>z0d (by simp[execOp,go_sem,e2])) ?_
    refine And.intro (fun w' hw=>z0d (by simp[execOp,go_sem,e3])) ?_
    refine And.intro (fun w' hw=>z1k 54 #[.string ⟨bs.toArray⟩,.int .u32 a,.int .u32 (m%4294967296)] (by simp[go_sem,e43,e44,e45]) (CO.out _)) ?_
    refine And.intro (fun w' hw=>z0d (by simp[execOp,go_sem,e46,fd])) ?_
    refine And.intro (fun w' hw=>z0d (by simp[execOp,go_sem,e40])) ?_
    refine And.intro (fun w' hw=>z0d (by simp[execOp,go_sem,e48])) ?_
    refine And.intro (fun w' hw=>z0d (by simp[execOp,go_sem,e49])) ?_
    refine And.intro (fun w' hw=>z0d (by simp[execOp,go_sem,e50,e42,r0,r1'])) ?_
    exact True.intro
  · intro β3 W3 hW3 _ _
    have H3:Hid (z0i W3 c s):=H2.out.below hW3
    have G3 : Hid (Chg (· = c) w W3) := G2.out.step hW3
    clear hW3 H2 G2 I2 i0 i1 i4 il CO hmo
    have cr:=H3.out.cell (rd+1) (by omega)
    have er:z0l s (rd+1)=.int .u32 (s.f rd):=by
      unfold z0l
      rw[if_neg (by omega),if_pos (by omega)]
      unfold rv
      rw[if_neg (by omega),Nat.add_sub_cancel]
    rw[er,Nat.add_comm] at cr
    have fr:=H3.out.free (1+rd)
    have H6:Hid (z0i (W3.setCell ⟨c,1+rd,none⟩ (.int .u32 N)) c { s with f:=set1 s.f rd N }):=by
      rw[Nat.add_comm]
      exact H3.out.put (rd+1) _ (fun j _=>z8u s rd (by omega) (by omega) N j)
    have G6 : Hid (Chg (· = c) w (W3.setCell ⟨c, 1 + rd, none⟩ (.int .u32 N))) := G3.out.own _
    have c33:=H6.out.cell 33 (by decide)
    have e33:z0l { s with f:=set1 s.f rd N } 33=.int .u32 (s.f 32):=by
      show Value.int .u32 (set1 s.f rd N 32)=_
      unfold set1
      rw[if_neg (by omega)]
    rw[e33] at c33
    have CN:Hid _:=fun pc=>z4l H6.out pc 1 HT.out HT'.out (by decide) (by decide)
    clear e33 er H6 H3 G3
    generalize s.f 32=q at *
    simp[z3o,lay,Act.put]
    go_wp2_with fail
    refine (CN.out _).mono ?_
    rintro e w7 ⟨rfl,h7,g7⟩
    have H7:Hid _:=h7
    have G7:Hid _:=G6.out.trans g7
    clear h7 g7 CN G6
    go_wp2
    go_end0
    exact⟨rfl,by rw[HV.out];exact H7.out,G7.out⟩
theorem mop_sltiu {w : World} {c : Nat} {s : CS} (h : z0i w c s) (ht : 0 ≤ s.t) (ht' : s.t ≤ 1152921504606846976) (rd : Nat) (hrd : rd < 32) (r1 r2 m a b : Int) (ha : U32 a) :
    Calls Tryz.prog 59 #[.pointer (some ⟨c, 0, none⟩), .agg #[.string ⟨#[115, 108, 116, 105, 117]⟩, .int .i64 rd, .int .i64 r1, .int .i64 r2, .int .i32 m], .int .u32 a, .int .u32 b] w fun e w' => e = .returned (.tuple #[]) ∧ z0i w' c (opS s [115, 108, 116, 117] rd a (m % 4294967296) 1) ∧ Chg (· = c) w w' := by
  have HC:Hid (z0i w c s):=h
  have HT:Hid _:=ht
  have HT':Hid _:=ht'
  have hmo:Tryz.prog.follows .mixedOrders=true:=by kernel_rfl
  have tl:(ByteArray.toList ⟨#[115,108,116,105,117]⟩)=[115,108,116,105,117]:=by rw[ByteArray.toList_eq]
  have tb:(ByteArray.toList ⟨#[115,108,116,117]⟩)=[115,108,116,117]:=by rw[ByteArray.toList_eq]
  have CK:Hid (∀ w,Calls Tryz.prog 19 #[.string ⟨#[115,108,116,105,117]⟩] w fun e w'=>e=.returned (.int .u8 73)∧Below w.heap.size w w'):=fun w=>rKindC ⟨#[115,108,116,105,117]⟩ 73 (z0q [115,108,116,105,117]).o (z0q [115,108,116,105,117]).g (z0q [115,108,116,105,117]).f (by rw[tl];rfl) w
  have CO:Hid (∀ w,Calls Tryz.prog 54 #[.string ⟨#[115,108,116,117]⟩,.int .u32 a,.int .u32 (m%4294967296)] w fun e w'=>e=.returned (.agg #[.int .u32 (opN [115,108,116,117] a (m%4294967296)),.int .i64 (opE [115,108,116,117])])∧Below w.heap.size w w'):=fun w=>by have:=rOp ⟨#[115,108,116,117]⟩ a (m%4294967296) ha ⟨by omega,by omega⟩ w;rw[tb] at this;exact this
  have HV:Hid (opS s [115,108,116,117] rd a (m%4294967296) 1=z2k { s with f:=set1 s.f rd (opN [115,108,116,117] a (m%4294967296)) } ((s.f 32+4)%4294967296) 1):=rfl
  have ex:(ByteArray.extract ⟨#[115,108,116,105,117]⟩ 0 4)=⟨#[115,108,116,105]⟩:=by rfl
  have r0:(0:Int)≤(rd:Int):=by omega
  have r1':(rd:Int)<32:=by omega
  clear h ht ht' tl tb
  generalize opS s [115,108,116,117] rd a (m%4294967296) 1=S' at *
  generalize opN [115,108,116,117] a (m%4294967296)=N at *
  generalize opE [115,108,116,117]=E at *
  go_enter Tryz.func59,Tryz.ntmps59
  go_wp2_with fail
  have I1:=z0g w (.cells #[.string ⟨#[115,108,116,105,117]⟩,.int .i64 rd,.int .i64 r1,.int .i64 r2,.int .i32 m] 52)
  have H1:Hid (z0i (w.alloc (.cells #[.string ⟨#[115,108,116,105,117]⟩,.int .i64 rd,.int .i64 r1,.int .i64 r2,.int .i32 m] 52)) c s):=HC.out.below ((Below.refl _ _).alloc (Nat.le_refl _) _)
  have G1 : Hid (Chg (· = c) w (w.alloc (.cells #[.string ⟨#[115, 108, 116, 105, 117]⟩, .int .i64 rd, .int .i64 r1, .int .i64 r2, .int .i32 m] 52))) := (Chg.refl _ _).alloc _
  have hci:w.heap.size≠c:=by have:=HC.out.lt;omega
  generalize w.alloc (.cells #[.string ⟨#[115,108,116,105,117]⟩,.int .i64 rd,.int .i64 r1,.int .i64 r2,.int .i32 m] 52)=V at *
  generalize w.heap.size=bi at *
  refine (CK.out _).mono ?_
  rintro e w2 ⟨rfl,b2⟩
  have H2:Hid (z0i w2 c s):=H1.out.below b2
  have G2 : Hid (Chg (· = c) w w2) := G1.out.step b2
  have I2:=z0f I1 b2
  clear b2 H1 G1 I1 CK
  obtain⟨ic,_,il⟩:=z0a I2
  have i0:=ic 0 (.string ⟨#[115,108,116,105,117]⟩) rfl
  have i1:=ic 1 (.int .i64 rd) rfl
  have i4:=ic 4 (.int .i32 m) rfl
  clear ic
  go_wp2_with fail
  refine z1b 12 [] [.pointer (some ⟨c,0,none⟩),.pointer (some ⟨bi,1,none⟩),.int .i64 rd,.string ⟨#[115,108,116,117]⟩,.int .u32 a,.int .u32 (m%4294967296),.agg #[.int .u32 N,.int .i64 E],.int .u32 N,.pointer (some ⟨c,0,none⟩),.pointer (some ⟨c,1,none⟩),.pointer (some ⟨c,1,none⟩),.pointer (some ⟨c,1+rd,none⟩)] hmo (by kernel_rfl) (by kernel_rfl) (by intro r hr;cases hr) ?_ (by intro r hr;cases hr) (by intro r hr;cases hr) ?_
  · generalize hl:lay _ _ _=af
    have e0:af.tmps[0]?.getD undef=.pointer (some ⟨c,0,none⟩):=by rw[← hl];kernel_rfl
    have e2:af.tmps[2]?.getD undef=.int .u32 a:=by rw[← hl];kernel_rfl
    have e3:af.tmps[3]?.getD undef=.int .u32 (m%4294967296):=by rw[← hl];kernel_rfl
    have e5:af.tmps[5]?.getD undef=.pointer (some ⟨bi,0,none⟩):=by rw[← hl];kernel_rfl
    have e8:af.tmps[8]?.getD undef=.string ⟨#[115,108,116,117]⟩:=by rw[← hl];kernel_rfl
    have e40:af.tmps[40]?.getD undef=.pointer (some ⟨c,0,none⟩):=by rw[← hl];kernel_rfl
    have e41:af.tmps[41]?.getD undef=.pointer (some ⟨bi,1,none⟩):=by rw[← hl];kernel_rfl
    have e42:af.tmps[42]?.getD undef=.int .i64 rd:=by rw[← hl];kernel_rfl
    have e43:af.tmps[43]?.getD undef=.string ⟨#[115,108,116,117]⟩:=by rw[← hl];kernel_rfl
    have e44:af.tmps[44]?.getD undef=.int .u32 a:=by rw[← hl];kernel_rfl
    have e45:af.tmps[45]?.getD undef=.int .u32 (m%4294967296):=by rw[← hl];kernel_rfl
    have e46:af.tmps[46]?.getD undef=.agg #[.int .u32 N,.int .i64 E]:=by rw[← hl];kernel_rfl
    have e48:af.tmps[48]?.getD undef=.pointer (some ⟨c,0,none⟩):=by rw[← hl];kernel_rfl
    have e49:af.tmps[49]?.getD undef=.pointer (some ⟨c,1,none⟩):=by rw[← hl];kernel_rfl
    have e50:af.tmps[50]?.getD undef=.pointer (some ⟨c,1,none⟩):=by rw[← hl];kernel_rfl
    clear hl
    have fd:=fld0 (.int .u32 N) (.int .i64 E)
    refine And.intro (fun w' hw=>z0d (by simp[execOp,go_sem,e0])) ?_
    refine And.intro (fun w' hw=>z0d (by simp[execOp,go_sem,e5])) ?_
    refine And.intro (fun w' hw=>by
      have c1:=(z0a (z0f I2 hw)).1 1 (.int .i64 rd) rfl
      exact z0d (by simp[execOp,go_sem,e41,c1])) ?_
    refine And.intro (fun w' hw=>z0d (by simp[execOp,go_sem,e8])) ?_
    refine And.intro (fun w' hw=>z0d (by simp[execOp,go_sem,e2])) ?_
    refine And.intro (fun w' hw=>z0d (by simp[execOp,go_sem,e3])) ?_
    refine And.intro (fun w' hw=>z1k 54 #[.string ⟨#[115,108,116,117]⟩,.int .u32 a,.int .u32 (m%4294967296)] (by simp[go_sem,e43,e44,e45]) (CO.out _)) ?_
    refine And.intro (fun w' hw=>z0d (by simp[execOp,go_sem,e46,fd])) ?_
    refine And.intro (fun w' hw=>z0d (by simp[execOp,go_sem,e40])) ?_
    refine And.intro (fun w' hw=>z0d (by simp[execOp,go_sem,e48])) ?_
    refine And.intro (fun w' hw=>z0d (by simp[execOp,go_sem,e49])) ?_
    refine And.intro (fun w' hw=>z0d (by simp[execOp,go_sem,e50,e42,r0,r1'])) ?_
    exact True.intro
  · intro β3 W3 hW3 _ _
    have H3:Hid (z0i W3 c s):=H2.out.below hW3
    have G3 : Hid (Chg (· = c) w W3) := G2.out.step hW3
    clear hW3 H2 G2 I2 i0 i1 i4 il CO hmo
    have cr:=H3.out.cell (rd+1) (by omega)
    have er:z0l s (rd+1)=.int .u32 (s.f rd):=by
      unfold z0l
      rw[if_neg (by omega),if_pos (by omega)]
      unfold rv
      rw[if_neg (by omega),Nat.add_sub_cancel]
    rw[er,Nat.add_comm] at cr
    have fr:=H3.out.free (1+rd)
    have H6:Hid (z0i (W3.setCell ⟨c,1+rd,none⟩ (.int .u32 N)) c { s with f:=set1 s.f rd N }):=by
      rw[Nat.add_comm]
      exact H3.out.put (rd+1) _ (fun j _=>z8u s rd (by omega) (by omega) N j)
    have G6 : Hid (Chg (· = c) w (W3.setCell ⟨c, 1 + rd, none⟩ (.int .u32 N))) := G3.out.own _
    have c33:=H6.out.cell 33 (by decide)
    have e33:z0l { s with f:=set1 s.f rd N } 33=.int .u32 (s.f 32):=by
      show Value.int .u32 (set1 s.f rd N 32)=_
      unfold set1
      rw[if_neg (by omega)]
    rw[e33] at c33
    have CN:Hid _:=fun pc=>z4l H6.out pc 1 HT.out HT'.out (by decide) (by decide)
    clear e33 er H6 H3 G3
    generalize s.f 32=q at *
    simp[z3o,lay,Act.put]
    go_wp2_with fail
    refine (CN.out _).mono ?_
    rintro e w7 ⟨rfl,h7,g7⟩
    have H7:Hid _:=h7
    have G7:Hid _:=G6.out.trans g7
    clear h7 g7 CN G6
    go_wp2
    go_end0
    exact⟨rfl,by rw[HV.out];exact H7.out,G7.out⟩
def others:List (List UInt8):=[[108,117,105],[97,117,105,112,99],[106,97,108],[106,97,108,114],[98,101,113],[98,110,101],[98,108,116],[98,103,101],[98,108,116,117],[98,103,101,117],[108,98],[108,104],[108,119],[108,98,117],[108,104,117],[115,98],[115,104],[115,119],[99,115,114,114,119],[99,115,114,114,115],[99,115,114,114,99],[109,114,101,116],[119,102,105],[102,101,110,99,101],[101,99,97,108,108],[101,98,114,101,97,107]]
theorem ops_apart:∀ q∈z6q,∀ n∈others,(q.1==n)=false:=by decide +kernel
theorem ops_mem {nm:List UInt8} (h:(z6q.lookup nm).isSome=true):∃ q∈z6q,q.1=nm:=by
  cases hl:z6q.lookup nm with
  | none=>rw[hl] at h;cases h
  | some p=>
   have h1:∀ (l:List (List UInt8 × List UInt8 × Int × Bool)),l.lookup nm=some p→∃ q∈l,q.1=nm:=by
    intro l
    induction l with
    | nil=>intro e;cases e
    | cons y r ih=>
     intro e
     obtain⟨k,v⟩:=y
     rw[List.lookup_cons] at e
     split at e
     ·rename_i hk
      exact⟨(k,v),.head _,(beq_iff_eq.1 hk).symm⟩
     ·obtain⟨q,h2,h3⟩:=ih e
      exact⟨q,.tail _ h2,h3⟩
   exact h1 _ hl
theorem ops_others {nm:List UInt8} (h:(z6q.lookup nm).isSome=true):∀ n∈others,(nm==n)=false:=by
 obtain⟨q,hq,rfl⟩:=ops_mem h
 exact ops_apart q hq
theorem ops_is {nm:List UInt8} (h:(z6q.lookup nm).isSome=true):nm=[97,100,100]∨nm=[115,117,98]∨nm=[115,108,108]∨nm=[115,108,116]∨nm=[115,108,116,117]∨nm=[120,111,114]∨nm=[115,114,108]∨nm=[115,114,97]∨nm=[111,114]∨nm=[97,110,100]∨nm=[109,117,108]∨nm=[109,117,108,104]∨nm=[109,117,108,104,115,117]∨nm=[109,117,108,104,117]∨nm=[100,105,118]∨nm=[100,105,118,117]∨nm=[114,101,109]∨nm=[114,101,109,117]∨nm=[97,100,100,105]∨nm=[115,108,116,105]∨nm=[115,108,116,105,117]∨nm=[120,111,114,105]∨nm=[111,114,105]∨nm=[97,110,100,105]∨nm=[115,108,108,105]∨nm=[115,114,108,105]∨nm=[115,114,97,105]:=by
 obtain⟨q,hq,rfl⟩:=ops_mem h
 revert q
 simp only[z6q,List.forall_mem_cons]
 simp
theorem mopAll {w : World} {c : Nat} {s : CS} (h : z0i w c s) (hf : ∀ i, U32 (s.f i)) (ht : 0 ≤ s.t) (ht' : s.t ≤ 1152921504606846976) (nm : List UInt8) (hn : (z6q.lookup nm).isSome = true) (d a b : Nat) (hd : d < 32) (m : Int) :
    Calls Tryz.prog 59 #[.pointer (some ⟨c, 0, none⟩), .agg #[.string ⟨nm.toArray⟩, .int .i64 d, .int .i64 a, .int .i64 b, .int .i32 m], .int .u32 (s.f a), .int .u32 (s.f b)] w fun e w' => e = .returned (.tuple #[]) ∧ z0i w' c (opC s ⟨nm, d, a, b, m⟩) ∧ Chg (· = c) w w' := by
  rcases ops_is hn with rfl | rfl | rfl | rfl | rfl | rfl | rfl | rfl | rfl | rfl | rfl | rfl | rfl | rfl | rfl | rfl | rfl | rfl | rfl | rfl | rfl | rfl | rfl | rfl | rfl | rfl | rfl
  · exact z8h _ 1 rfl (by unfold z4t;decide) h ht ht' d hd a b m (s.f a) (s.f b) (hf a) (hf b)
  · exact z8h _ 1 rfl (by unfold z4t;decide) h ht ht' d hd a b m (s.f a) (s.f b) (hf a) (hf b)
  · exact z8h _ 1 rfl (by unfold z4t;decide) h ht ht' d hd a b m (s.f a) (s.f b) (hf a) (hf b)
  · exact z8h _ 1 rfl (by unfold z4t;decide) h ht ht' d hd a b m (s.f a) (s.f b) (hf a) (hf b)
  · exact z8h _ 1 rfl (by unfold z4t;decide) h ht ht' d hd a b m (s.f a) (s.f b) (hf a) (hf b)
  · exact z8h _ 1 rfl (by unfold z4t;decide) h ht ht' d hd a b m (s.f a) (s.f b) (hf a) (hf b)
  · exact z8h _ 1 rfl (by unfold z4t;decide) h ht ht' d hd a b m (s.f a) (s.f b) (hf a) (hf b)
  · exact z8h _ 1 rfl (by unfold z4t;decide) h ht ht' d hd a b m (s.f a) (s.f b) (hf a) (hf b)
  · exact z8h _ 1 rfl (by unfold z4t;decide) h ht ht' d hd a b m (s.f a) (s.f b) (hf a) (hf b)
  · exact z8h _ 1 rfl (by unfold z4t;decide) h ht ht' d hd a b m (s.f a) (s.f b) (hf a) (hf b)
  · exact z8h _ 3 rfl (by unfold z4t;decide) h ht ht' d hd a b m (s.f a) (s.f b) (hf a) (hf b)
  · exact z8h _ 3 rfl (by unfold z4t;decide) h ht ht' d hd a b m (s.f a) (s.f b) (hf a) (hf b)
  · exact z8h _ 3 rfl (by unfold z4t;decide) h ht ht' d hd a b m (s.f a) (s.f b) (hf a) (hf b)
  · exact z8h _ 3 rfl (by unfold z4t;decide) h ht ht' d hd a b m (s.f a) (s.f b) (hf a) (hf b)
  · exact z8h _ 20 rfl (by unfold z4t;decide) h ht ht' d hd a b m (s.f a) (s.f b) (hf a) (hf b)
  · exact z8h _ 20 rfl (by unfold z4t;decide) h ht ht' d hd a b m (s.f a) (s.f b) (hf a) (hf b)
  · exact z8h _ 20 rfl (by unfold z4t;decide) h ht ht' d hd a b m (s.f a) (s.f b) (hf a) (hf b)
  · exact z8h _ 20 rfl (by unfold z4t;decide) h ht ht' d hd a b m (s.f a) (s.f b) (hf a) (hf b)
  · exact mop_I _ [97,100,100] 73 rfl rfl (by decide) rfl (by decide) rfl (by decide) (by decide) (by decide) (by decide) (by decide) (by decide) (by decide) (by decide) h ht ht' d hd a b m (s.f a) (s.f b) (hf a)
  · exact mop_I _ [115,108,116] 73 rfl rfl (by decide) rfl (by decide) rfl (by decide) (by decide) (by decide) (by decide) (by decide) (by decide) (by decide) (by decide) h ht ht' d hd a b m (s.f a) (s.f b) (hf a)
  · exact mop_sltiu h ht ht' d hd a b m (s.f a) (s.f b) (hf a)
  · exact mop_I _ [120,111,114] 73 rfl rfl (by decide) rfl (by decide) rfl (by decide) (by decide) (by decide) (by decide) (by decide) (by decide) (by decide) (by decide) h ht ht' d hd a b m (s.f a) (s.f b) (hf a)
  · exact mop_I _ [111,114] 73 rfl rfl (by decide) rfl (by decide) rfl (by decide) (by decide) (by decide) (by decide) (by decide) (by decide) (by decide) (by decide) h ht ht' d hd a b m (s.f a) (s.f b) (hf a)
  · exact mop_I _ [97,110,100] 73 rfl rfl (by decide) rfl (by decide) rfl (by decide) (by decide) (by decide) (by decide) (by decide) (by decide) (by decide) (by decide) h ht ht' d hd a b m (s.f a) (s.f b) (hf a)
  · exact mop_I _ [115,108,108] 83 rfl rfl (by decide) rfl (by decide) rfl (by decide) (by decide) (by decide) (by decide) (by decide) (by decide) (by decide) (by decide) h ht ht' d hd a b m (s.f a) (s.f b) (hf a)
  · exact mop_I _ [115,114,108] 83 rfl rfl (by decide) rfl (by decide) rfl (by decide) (by decide) (by decide) (by decide) (by decide) (by decide) (by decide) (by decide) h ht ht' d hd a b m (s.f a) (s.f b) (hf a)
  · exact mop_I _ [115,114,97] 83 rfl rfl (by decide) rfl (by decide) rfl (by decide) (by decide) (by decide) (by decide) (by decide) (by decide) (by decide) (by decide) h ht ht' d hd a b m (s.f a) (s.f b) (hf a)
theorem insC_op {nm:List UInt8} (hn:(z6q.lookup nm).isSome=true) (s:CS) (l:List Int) (es:List Ev) (d a b:Nat) (m x:Int):insC s l es ⟨nm,d,a,b,m⟩ x=(opC s ⟨nm,d,a,b,m⟩,l,es):=by
 rcases ops_is hn with rfl | rfl | rfl | rfl | rfl | rfl | rfl | rfl | rfl | rfl | rfl | rfl | rfl | rfl | rfl | rfl | rfl | rfl | rfl | rfl | rfl | rfl | rfl | rfl | rfl | rfl | rfl <;> rfl
theorem opC_ev (s:CS) (i:MIns):(opC s i).m=s.m∧(opC s i).ev=s.ev:=by
 unfold opC
 split <;> exact⟨rfl,rfl⟩
theorem mdo_o_false {w : World} {c bm cap B : Nat} {s : CS} {l : List Int} {es : List Ev} (h : z1q w c bm cap B s l es) (hF : Fine s es) (hu : s.u = false) (hp : s.f 32 % 4 = 0) (ha : askV l.length (s.f 32) 4 = 0)
    (nm:List UInt8) (d a b:Nat) (m x:Int) (hx:z1l l (s.f 32) 4 false=x) (hg:getV (z1l l (s.f 32) 4 false)=some ⟨nm,d,a,b,m⟩) (hld:d<32) (hla:a<32) (hlb:b<32) (hn:(z6q.lookup nm).isSome=true) :
    Calls Tryz.prog 30 #[.pointer (some ⟨c,0,none⟩)] w fun e w'=>e=.returned (.tuple #[])∧Went w w' c bm cap B s (insC s l es ⟨nm,d,a,b,m⟩ x):=by
  have hu':=hu
  have HNM:Hid _:=hn
  clear hn
  have HM:Hid _:=h
  have HF:Hid _:=hF
  have HT:Hid (0≤s.t):=hF.t0
  have HT':Hid (s.t≤1152921504606846976):=by have:=hF.t1;show _≤_;omega
  have c33:=h.core.cell 33 (by decide)
  have e33:z0l s 33=.int .u32 (s.f 32):=rfl
  rw[e33] at c33
  have c34:=h.core.cell 34 (by decide)
  have e34:z0l s 34=.bool false:=by rw[← hu];rfl
  rw[e34] at c34
  have c0:=h.core.cell 0 (by decide)
  have e0:z0l s 0=.slice (some ⟨bm,0,none⟩) l.length cap:=h.mem.m
  rw[e0] at c0
  have t4:(s.f 32).tmod 4=s.f 32%4:=Int.tmod_eq_emod_of_nonneg (hF.f 32).1
  have p4:(s.f 32%4 != 0)=false:=by simpa using hp
  have CL:Hid _:=fun W hm hl=>z6p bm l.length cap l (s.f 32) 4 false h.mem.len (hF.f 32) h.mem.u W hm hl
  rw[ha,z2p ha] at CL
  have CG:Hid _:=z8g (z2l l (s.f 32) 4) hg
  have CK:Hid _:=z3j nm
  generalize (z0q nm).k=kk at *
  have HX:Hid (z1l l (s.f 32) 4 false=x):=hx
  rw[hx] at CL CG
  generalize hpc:s.f 32=pc at *
  have HPC:Hid (s.f 32=pc):=hpc
  have ha0:(0:Int)≤(a:Int):=by omega
  have ha1:(a:Int)<32:=by omega
  have hb0:(0:Int)≤(b:Int):=by omega
  have hb1:(b:Int)<32:=by omega
  have hd0:(0:Int)≤(d:Int):=by omega
  have hd1:(d:Int)<32:=by omega
  clear h hF hp ha hg hx hpc hu e33 e34 e0
  go_enter Tryz.func30,Tryz.ntmps30
  go_wp2_with fail
  refine Calls.mono (CL.out w HM.out.mem.mem HM.out.mem.lt) ?_
  rintro e w2 ⟨rfl,b2⟩
  have H2:Hid (z0i w2 c s):=HM.out.core.below b2
  have G2 : Hid (Chg (· = c) w w2) := Chg.of b2
  clear CL b2 c0
  have q2:c<w2.heap.size:=H2.out.lt
  have H2b:Hid (z0i (w2.alloc (.cells #[.int .u32 x,.int .i64 0] 81)) c s):=H2.out.below ((Below.refl _ _).alloc (Nat.le_refl _) _)
  have G2b : Hid (Chg (· = c) w (w2.alloc (.cells #[.int .u32 x, .int .i64 0] 81))) := G2.out.alloc _
  have I2:=z0g w2 (.cells #[.int .u32 x,.int .i64 0] 81)
  obtain⟨ic,_,il⟩:=z0a I2
  have i0:=ic 0 (.int .u32 x) rfl
  have i1:=ic 1 (.int .i64 0) rfl
  clear H2 G2 ic
  go_wp2_with fail
  generalize w2.alloc (.cells #[.int .u32 x,.int .i64 0] 81)=V2 at *
  have nbg:w2.heap.size≠c:=by omega
  generalize w2.heap.size=bg at *
  refine Calls.mono (CG.out _) ?_
  rintro e w3 ⟨rfl,b3⟩
  have H3:Hid (z0i w3 c s):=H2b.out.below b3
  have G3 : Hid (Chg (· = c) w w3) := G2b.out.step b3
  have I3:=z0f I2 b3
  have q3:c<w3.heap.size:=H3.out.lt
  have q3':bg<w3.heap.size:=(Array.getElem?_eq_some_iff.1 I3).1
  clear b3 H2b G2b I2 i0 i1 il CG q2
  go_wp2_with fail
  have TT:Hid (Told w ((w3.alloc (.cells #[.string ⟨nm.toArray⟩,.int .i64 d,.int .i64 a,.int .i64 b,.int .i32 m,.bool true] 104)).alloc (.cells #[.string ⟨nm.toArray⟩,.int .i64 d,.int .i64 a,.int .i64 b,.int .i32 m] 52)) c s (w3.heap.size+1) bg nm d a b m x):=by
    refine⟨H3.out.below box2,(G3.out.alloc _).alloc _,?_,z0f I3 box2,by omega,nbg⟩
    have:=z0g (w3.alloc (.cells #[.string ⟨nm.toArray⟩,.int .i64 d,.int .i64 a,.int .i64 b,.int .i32 m,.bool true] 104)) (.cells #[.string ⟨nm.toArray⟩,.int .i64 d,.int .i64 a,.int .i64 b,.int .i32 m] 52)
    rwa [World.size_alloc] at this
  have TO:Hid (((w3.alloc (.cells #[.string ⟨nm.toArray⟩,.int .i64 d,.int .i64 a,.int .i64 b,.int .i32 m,.bool true] 104)).alloc (.cells #[.string ⟨nm.toArray⟩,.int .i64 d,.int .i64 a,.int .i64 b,.int .i32 m] 52)).heap[w3.heap.size]?=some (.cells #[.string ⟨nm.toArray⟩,.int .i64 d,.int .i64 a,.int .i64 b,.int .i32 m,.bool true] 104)):=z0m ((Below.refl _ _).alloc (Nat.le_refl _) _)
  clear H3 G3 I3 nbg
  generalize (w3.alloc (.cells #[.string ⟨nm.toArray⟩,.int .i64 d,.int .i64 a,.int .i64 b,.int .i32 m,.bool true] 104)).alloc (.cells #[.string ⟨nm.toArray⟩,.int .i64 d,.int .i64 a,.int .i64 b,.int .i32 m] 52)=V3 at *
  generalize w3.heap.size=bt at *
  refine Calls.mono (CK.out _) ?_
  rintro e w4 ⟨rfl,b4⟩
  have T4:Hid _:=TT.out.below b4
  have t5:=(z0a (z0f TO.out b4)).1 5 (.bool true) rfl
  have i0:=(z0a T4.out.ins).1 0 (.string ⟨nm.toArray⟩) rfl
  have i2:=(z0a T4.out.ins).1 2 (.int .i64 a) rfl
  have i3:=(z0a T4.out.ins).1 3 (.int .i64 b) rfl
  have i4:=(z0a T4.out.ins).1 4 (.int .i32 m) rfl
  have xa:=T4.out.core.x a hla
  have xb:=T4.out.core.x b hlb
  have c34:=T4.out.core.cell 34 (by decide)
  have e34:z0l s 34=.bool false:=by show Value.bool s.u=_;rw[hu']
  rw[e34] at c34
  clear b4 TT TO CK e34
  go_wp2_with fail
  --DBG
  go_quiet (fail)
  have T5:Hid _:=T4.out.below (z0u w4.heap.size w4 nq)
  have j0:=(z0a T5.out.ins).1 0 (.string ⟨nm.toArray⟩) rfl
  have j1:=(z0a T5.out.ins).1 1 (.int .i64 d) rfl
  have cr:=T5.out.core.x d hld
  have fr:=T5.out.core.free (1+d)
  clear T4 t5 i0 i2 i3 i4 xa xb c34 c33
  generalize w4.drewN nq=W5 at *
  generalize bt+1=bi at *
  have HMU0:U32 (m%4294967296):=⟨by omega,by omega⟩
  generalize hmu:m%4294967296=mu at *
  have HMU:Hid (m%4294967296=mu):=hmu
  have HMV:Hid (U32 mu):=HMU0
  clear hmu HMU0
  have hn:=HNM.out
  have HN:Hid _:=hn
  have AP:Hid (∀ n∈others,(nm==n)=false):=fun n hm=>ops_others hn n hm
  have y0:=AP.out [108,117,105] (by decide)
  have y1:=AP.out [97,117,105,112,99] (by decide)
  have y2:=AP.out [106,97,108] (by decide)
  have y3:=AP.out [106,97,108,114] (by decide)
  have y4:=AP.out [98,101,113] (by decide)
  have y5:=AP.out [98,110,101] (by decide)
  have y6:=AP.out [98,108,116] (by decide)
  have y7:=AP.out [98,103,101] (by decide)
  have y8:=AP.out [98,108,116,117] (by decide)
  have y9:=AP.out [98,103,101,117] (by decide)
  have y10:=AP.out [108,98] (by decide)
  have y11:=AP.out [108,104] (by decide)
  have y12:=AP.out [108,119] (by decide)
  have y13:=AP.out [108,98,117] (by decide)
  have y14:=AP.out [108,104,117] (by decide)
  have y15:=AP.out [115,98] (by decide)
  have y16:=AP.out [115,104] (by decide)
  have y17:=AP.out [115,119] (by decide)
  have y18:=AP.out [99,115,114,114,119] (by decide)
  have y19:=AP.out [99,115,114,114,115] (by decide)
  have y20:=AP.out [99,115,114,114,99] (by decide)
  have y21:=AP.out [109,114,101,116] (by decide)
  have y22:=AP.out [119,102,105] (by decide)
  have y23:=AP.out [102,101,110,99,101] (by decide)
  have y24:=AP.out [101,99,97,108,108] (by decide)
  have y25:=AP.out [101,98,114,101,97,107] (by decide)
  clear hn cr fr AP
  have j2:=(z0a T5.out.ins).1 2 (.int .i64 a) rfl
  have j3:=(z0a T5.out.ins).1 3 (.int .i64 b) rfl
  have j4:=(z0a T5.out.ins).1 4 (.int .i32 m) rfl
  go_wp2_with fail
  refine (mopAll T5.out.core HF.out.f HT.out HT'.out nm HN.out d a b hld m).mono ?_
  rintro e w7 ⟨rfl,h7,g7⟩
  have H7:Hid _:=h7
  have G7:Hid _:=T5.out.chg.trans g7
  clear h7 g7
  go_wp2
  go_end0
  refine⟨rfl,?_⟩
  rw[insC_op HN.out]
  exact z0x HM.out H7.out G7.out (opC_ev _ _).1 (opC_ev _ _).2
theorem mdo_o_true {w : World} {c bm cap B : Nat} {s : CS} {l : List Int} {es : List Ev} (h : z1q w c bm cap B s l es) (hF : Fine s es) (hu : s.u = true) (hp : s.f 32 % 4 = 0) (ha : askV l.length (s.f 32) 4 = 0)
    (nm:List UInt8) (d a b:Nat) (m x:Int) (hx:z1l l (s.f 32) 4 false=x) (hg:getV (z1l l (s.f 32) 4 false)=some ⟨nm,d,a,b,m⟩) (hld:d<32) (hla:a<32) (hlb:b<32) (hal:z2m (ofV (gw s.f)) (s.f 32) 4 2=true) (hk67:¬(z0q nm).k=67) (hnm:¬nm=[109,114,101,116]) (hnw:¬nm=[119,102,105]) (hn:(z6q.lookup nm).isSome=true) :
    Calls Tryz.prog 30 #[.pointer (some ⟨c,0,none⟩)] w fun e w'=>e=.returned (.tuple #[])∧Went w w' c bm cap B s (insC s l es ⟨nm,d,a,b,m⟩ x):=by
  have hu':=hu
  have HNM:Hid _:=hn
  clear hn
  have HM:Hid _:=h
  have HF:Hid _:=hF
  have HT:Hid (0≤s.t):=hF.t0
  have HT':Hid (s.t≤1152921504606846976):=by have:=hF.t1;show _≤_;omega
  have c33:=h.core.cell 33 (by decide)
  have e33:z0l s 33=.int .u32 (s.f 32):=rfl
  rw[e33] at c33
  have c34:=h.core.cell 34 (by decide)
  have e34:z0l s 34=.bool true:=by rw[← hu];rfl
  rw[e34] at c34
  have c0:=h.core.cell 0 (by decide)
  have e0:z0l s 0=.slice (some ⟨bm,0,none⟩) l.length cap:=h.mem.m
  rw[e0] at c0
  have t4:(s.f 32).tmod 4=s.f 32%4:=Int.tmod_eq_emod_of_nonneg (hF.f 32).1
  have p4:(s.f 32%4 != 0)=false:=by simpa using hp
  have CL:Hid _:=fun W hm hl=>z6p bm l.length cap l (s.f 32) 4 false h.mem.len (hF.f 32) h.mem.u W hm hl
  rw[ha,z2p ha] at CL
  have CG:Hid _:=z8g (z2l l (s.f 32) 4) hg
  have CK:Hid _:=z3j nm
  have HG:Hid (∀ i,U32 (gw s.f i)):=fun i=>HF.out.f _
  have HP:Hid (U32 (s.f 32)):=hF.f 32
  have HAL:Hid _:=hal
  have k67:((z0q nm).k==67)=false:=by simpa using hk67
  have RG:Hid _:=z1x h.core
  have z1:(nm==[109,114,101,116])=false:=by rw[beq_eq_false_iff_ne];exact hnm
  have z2:(nm==[119,102,105])=false:=by rw[beq_eq_false_iff_ne];exact hnw
  have z3:((⟨nm.toArray⟩:ByteArray).toList==[109,114,101,116])=false:=by rw[ByteArray.toList_eq];exact z1
  have z4:((⟨nm.toArray⟩:ByteArray).toList==[119,102,105])=false:=by rw[ByteArray.toList_eq];exact z2
  clear hal hk67 hnm hnw
  generalize (z0q nm).k=kk at *
  have HX:Hid (z1l l (s.f 32) 4 false=x):=hx
  rw[hx] at CL CG
  generalize hpc:s.f 32=pc at *
  have HPC:Hid (s.f 32=pc):=hpc
  have ha0:(0:Int)≤(a:Int):=by omega
  have ha1:(a:Int)<32:=by omega
  have hb0:(0:Int)≤(b:Int):=by omega
  have hb1:(b:Int)<32:=by omega
  have hd0:(0:Int)≤(d:Int):=by omega
  have hd1:(d:Int)<32:=by omega
  clear h hF hp ha hg hx hpc hu e33 e34 e0
  go_enter Tryz.func30,Tryz.ntmps30
  go_wp2_with (first | (refine z0w (by rfl) 30 (.tmp 30) rfl c 42 rfl (z2n (gw s.f)) _ RG.out z7e rfl (by rw[z1r];exact z4r) ?_))
  refine (rOf _ HG.out _).mono ?_
  rintro e v4 ⟨g,cg,rfl,-,-,hcg,hreg,b4⟩
  have B4:Hid _:=b4
  have RR:Hid _:=hreg
  clear hreg b4 hcg RG
  go_wp2_with fail
  refine (z6a RR.out (z8q HG.out) 8 cg rfl (by decide) pc 4 2 HP.out ⟨by decide,by decide⟩).mono ?_
  rintro e v5 ⟨rfl,b5⟩
  rw[HAL.out]
  have B5:Hid (Below w.heap.size w v5):=z0e B4.out b5
  clear b5 B4 RR HAL
  have M5:Hid (z0i v5 c s):=HM.out.core.below B5.out
  have N5:Hid _:=HM.out.mem.on (Chg.of B5.out) rfl
  have c0:=M5.out.cell 0 (by decide)
  have e0:z0l s 0=.slice (some ⟨bm,0,none⟩) l.length cap:=HM.out.mem.m
  rw[e0] at c0
  clear c33 c34 e0
  go_wp2_with fail
  refine Calls.mono (CL.out v5 N5.out.mem N5.out.lt) ?_
  rintro e w2 ⟨rfl,b2⟩
  have H2:Hid (z0i w2 c s):=M5.out.below b2
  have G2 : Hid (Chg (· = c) w w2) := (Chg.of B5.out).step b2
  clear M5 N5 B5
  clear CL b2 c0
  have q2:c<w2.heap.size:=H2.out.lt
  have H2b:Hid (z0i (w2.alloc (.cells #[.int .u32 x,.int .i64 0] 81)) c s):=H2.out.below ((Below.refl _ _).alloc (Nat.le_refl _) _)
  have G2b : Hid (Chg (· = c) w (w2.alloc (.cells #[.int .u32 x, .int .i64 0] 81))) := G2.out.alloc _
  have I2:=z0g w2 (.cells #[.int .u32 x,.int .i64 0] 81)
  obtain⟨ic,_,il⟩:=z0a I2
  have i0:=ic 0 (.int .u32 x) rfl
  have i1:=ic 1 (.int .i64 0) rfl
  clear H2 G2 ic
  go_wp2_with fail
  generalize w2.alloc (.cells #[.int .u32 x,.int .i64 0] 81)=V2 at *
  have nbg:w2.heap.size≠c:=by omega
  generalize w2.heap.size=bg at *
  refine Calls.mono (CG.out _) ?_
  rintro e w3 ⟨rfl,b3⟩
  have H3:Hid (z0i w3 c s):=H2b.out.below b3
  have G3 : Hid (Chg (· = c) w w3) := G2b.out.step b3
  have I3:=z0f I2 b3
  have q3:c<w3.heap.size:=H3.out.lt
  have q3':bg<w3.heap.size:=(Array.getElem?_eq_some_iff.1 I3).1
  clear b3 H2b G2b I2 i0 i1 il CG q2
  go_wp2_with fail
  have TT:Hid (Told w ((w3.alloc (.cells #[.string ⟨nm.toArray⟩,.int .i64 d,.int .i64 a,.int .i64 b,.int .i32 m,.bool true] 104)).alloc (.cells #[.string ⟨nm.toArray⟩,.int .i64 d,.int .i64 a,.int .i64 b,.int .i32 m] 52)) c s (w3.heap.size+1) bg nm d a b m x):=by
    refine⟨H3.out.below box2,(G3.out.alloc _).alloc _,?_,z0f I3 box2,by omega,nbg⟩
    have:=z0g (w3.alloc (.cells #[.string ⟨nm.toArray⟩,.int .i64 d,.int .i64 a,.int .i64 b,.int .i32 m,.bool true] 104)) (.cells #[.string ⟨nm.toArray⟩,.int .i64 d,.int .i64 a,.int .i64 b,.int .i32 m] 52)
    rwa [World.size_alloc] at this
  have TO:Hid (((w3.alloc (.cells #[.string ⟨nm.toArray⟩,.int .i64 d,.int .i64 a,.int .i64 b,.int .i32 m,.bool true] 104)).alloc (.cells #[.string ⟨nm.toArray⟩,.int .i64 d,.int .i64 a,.int .i64 b,.int .i32 m] 52)).heap[w3.heap.size]?=some (.cells #[.string ⟨nm.toArray⟩,.int .i64 d,.int .i64 a,.int .i64 b,.int .i32 m,.bool true] 104)):=z0m ((Below.refl _ _).alloc (Nat.le_refl _) _)
  clear H3 G3 I3 nbg
  generalize (w3.alloc (.cells #[.string ⟨nm.toArray⟩,.int .i64 d,.int .i64 a,.int .i64 b,.int .i32 m,.bool true] 104)).alloc (.cells #[.string ⟨nm.toArray⟩,.int .i64 d,.int .i64 a,.int .i64 b,.int .i32 m] 52)=V3 at *
  generalize w3.heap.size=bt at *
  refine Calls.mono (CK.out _) ?_
  rintro e w4 ⟨rfl,b4⟩
  have T4:Hid _:=TT.out.below b4
  have t5:=(z0a (z0f TO.out b4)).1 5 (.bool true) rfl
  have i0:=(z0a T4.out.ins).1 0 (.string ⟨nm.toArray⟩) rfl
  have i2:=(z0a T4.out.ins).1 2 (.int .i64 a) rfl
  have i3:=(z0a T4.out.ins).1 3 (.int .i64 b) rfl
  have i4:=(z0a T4.out.ins).1 4 (.int .i32 m) rfl
  have xa:=T4.out.core.x a hla
  have xb:=T4.out.core.x b hlb
  have c34:=T4.out.core.cell 34 (by decide)
  have e34:z0l s 34=.bool true:=by show Value.bool s.u=_;rw[hu']
  rw[e34] at c34
  clear b4 TT TO CK e34
  go_wp2_with fail
  --DBG
  go_quiet (fail)
  have T5:Hid _:=T4.out.below (z0u w4.heap.size w4 nq)
  have j0:=(z0a T5.out.ins).1 0 (.string ⟨nm.toArray⟩) rfl
  have j1:=(z0a T5.out.ins).1 1 (.int .i64 d) rfl
  have cr:=T5.out.core.x d hld
  have fr:=T5.out.core.free (1+d)
  clear T4 t5 i0 i2 i3 i4 xa xb c34
  generalize w4.drewN nq=W5 at *
  generalize bt+1=bi at *
  have HMU0:U32 (m%4294967296):=⟨by omega,by omega⟩
  generalize hmu:m%4294967296=mu at *
  have HMU:Hid (m%4294967296=mu):=hmu
  have HMV:Hid (U32 mu):=HMU0
  clear hmu HMU0
  have hn:=HNM.out
  have HN:Hid _:=hn
  have AP:Hid (∀ n∈others,(nm==n)=false):=fun n hm=>ops_others hn n hm
  have y0:=AP.out [108,117,105] (by decide)
  have y1:=AP.out [97,117,105,112,99] (by decide)
  have y2:=AP.out [106,97,108] (by decide)
  have y3:=AP.out [106,97,108,114] (by decide)
  have y4:=AP.out [98,101,113] (by decide)
  have y5:=AP.out [98,110,101] (by decide)
  have y6:=AP.out [98,108,116] (by decide)
  have y7:=AP.out [98,103,101] (by decide)
  have y8:=AP.out [98,108,116,117] (by decide)
  have y9:=AP.out [98,103,101,117] (by decide)
  have y10:=AP.out [108,98] (by decide)
  have y11:=AP.out [108,104] (by decide)
  have y12:=AP.out [108,119] (by decide)
  have y13:=AP.out [108,98,117] (by decide)
  have y14:=AP.out [108,104,117] (by decide)
  have y15:=AP.out [115,98] (by decide)
  have y16:=AP.out [115,104] (by decide)
  have y17:=AP.out [115,119] (by decide)
  have y18:=AP.out [99,115,114,114,119] (by decide)
  have y19:=AP.out [99,115,114,114,115] (by decide)
  have y20:=AP.out [99,115,114,114,99] (by decide)
  have y21:=AP.out [109,114,101,116] (by decide)
  have y22:=AP.out [119,102,105] (by decide)
  have y23:=AP.out [102,101,110,99,101] (by decide)
  have y24:=AP.out [101,99,97,108,108] (by decide)
  have y25:=AP.out [101,98,114,101,97,107] (by decide)
  clear hn cr fr AP
  have j2:=(z0a T5.out.ins).1 2 (.int .i64 a) rfl
  have j3:=(z0a T5.out.ins).1 3 (.int .i64 b) rfl
  have j4:=(z0a T5.out.ins).1 4 (.int .i32 m) rfl
  go_wp2_with fail
  refine (mopAll T5.out.core HF.out.f HT.out HT'.out nm HN.out d a b hld m).mono ?_
  rintro e w7 ⟨rfl,h7,g7⟩
  have H7:Hid _:=h7
  have G7:Hid _:=T5.out.chg.trans g7
  clear h7 g7
  go_wp2
  go_end0
  refine⟨rfl,?_⟩
  rw[insC_op HN.out]
  exact z0x HM.out H7.out G7.out (opC_ev _ _).1 (opC_ev _ _).2
end Go.Proofs.YtbmnmbkgdalkcaaGreatDoor
