/-
  Contracts of functions that the statement reaches, and what they are made of, callees first.
-/
import Derived.Test.YtbmnmbkgdalkcaaGreatDoorPzLawp6
set_option maxRecDepth 100000
set_option maxHeartbeats 8000000
namespace Go.Proofs.YtbmnmbkgdalkcaaGreatDoor
open Go.RowKit
theorem ins_alloc (w:World):(Instr.alloc 52 true (.tuple #[])).run Tryz.prog w=.ok (.pointer (some ⟨w.heap.size,0,none⟩)) (w.alloc (.cells #[.string ⟨#[]⟩,.int .i64 0,.int .i64 0,.int .i64 0,.int .i32 0] 52)):=by kernel_rfl
theorem ins_info:(Tryz.prog.info? 52).map (·.size)=some 5:=by kernel_rfl
def progTab:Array Value:=#[.int .i32 768,.int .i32 772,.int .i32 773,.int .i32 832,.int .i32 833,.int .i32 834,.int .i32 835,.int .i32 836,.int .i32 1984,.int .i32 1985,.int .i32 3072,.int .i32 5]
theorem prog_tab (k:Nat) (hk:k<12):∃ m,progTab[k]?=some (.int .i32 m):=by
 rcases (by omega:k=0∨k=1∨k=2∨k=3∨k=4∨k=5∨k=6∨k=7∨k=8∨k=9∨k=10∨k=11) with rfl | rfl | rfl | rfl | rfl | rfl | rfl | rfl | rfl | rfl | rfl | rfl
 all_goals exact⟨_,rfl⟩
theorem one_built (x:Int) (w:World):(Instr.buildSlice 23 1 #[(0,.int .u32 x)]).run Tryz.prog w=.ok (.slice (some ⟨w.heap.size,0,none⟩) 1 1) (w.alloc (.cells #[.int .u32 x] 28)):=by kernel_rfl
theorem kWordX (s:ByteArray) (d a b m:Int) (w:World) :
  Calls Tryz.prog 20 #[.agg #[.string s,.int .i64 d,.int .i64 a,.int .i64 b,.int .i32 m]] w fun e w'=>∃ x,U32 x∧e=.returned (.int .u32 x)∧Below w.heap.size w w':=
 (kWord s d a b m w).mono fun _ _ h=>⟨_,putN_u _,h.1,h.2⟩
theorem w64_1 {j:Nat} (h:j≤240):wrap64 ((j:Int)+1)=(j:Int)+1:=z0y (by omega) (by omega)
theorem w64_2 {j:Nat} (h:j≤240):wrap64 ((j:Int)+2)=(j:Int)+2:=z0y (by omega) (by omega)
theorem w64_3 {j:Nat} (h:j≤240):wrap64 ((j:Int)+3)=(j:Int)+3:=z0y (by omega) (by omega)
theorem w64_4 {j:Nat} (h:j≤240):wrap64 ((j:Int)+4)=(j:Int)+4:=z0y (by omega) (by omega)
theorem k64_1 {j:Nat} (h:j≤240):IntKind.i64.wrap ((j:Int)+1)=(j:Int)+1:=by rw[IntKind.wrap_i64];omega
theorem k64_2 {j:Nat} (h:j≤240):IntKind.i64.wrap ((j:Int)+2)=(j:Int)+2:=by rw[IntKind.wrap_i64];omega
theorem k64_3 {j:Nat} (h:j≤240):IntKind.i64.wrap ((j:Int)+3)=(j:Int)+3:=by rw[IntKind.wrap_i64];omega
theorem k32 {c:Int} (h0:-1000000≤c) (h1:c≤1000000):IntKind.i32.wrap c=c:=by rw[IntKind.wrap_i32];omega
structure Nums (j n len:Nat):Prop where
 i1:(0:Int)≤(j:Int)+1
 i2:(0:Int)≤(j:Int)+2
 i3:(0:Int)≤(j:Int)+3
 l0:(j:Int)<(n:Int)
 l1:(j:Int)+1<(n:Int)
 l2:(j:Int)+2<(n:Int)
 l3:(j:Int)+3<(n:Int)
 n1:((j:Int)+1).toNat=j+1
 n2:((j:Int)+2).toNat=j+2
 n3:((j:Int)+3).toNat=j+3
 d1:decide ((j:Int)+3<(n:Int))=true
 d2:decide ((len:Int)<60)=true
 m1:len+1≤maxLen
 m2:(len+1)*4≤140737488355328
 m3:len+1≤60
 m4:j+4=4*(len+1)
 m5:240-(j+4)<240-j
theorem nums {j n len:Nat} (hj:j=4*len) (h:j+3<n) (h2:len<60):Nums j n len:=
 ⟨by omega,by omega,by omega,by omega,by omega,by omega,by omega,by omega,by omega,by omega,decide_eq_true (by omega),decide_eq_true (by omega),by unfold maxLen;omega,by omega,by omega,by omega,by omega⟩
structure Bytes (c0 c1 c2 c3:Int):Prop where
 v1:IntKind.i32.wrap c1=c1
 v2:IntKind.i32.wrap c2=c2
 v3:IntKind.i32.wrap c3=c3
 v4:IntKind.i32.wrap (c1*c2)=c1*c2
 v5:IntKind.i32.wrap (c3*9)=c3*9
 v6:IntKind.i32.wrap (c1*c2-c3*9)=c1*c2-c3*9
 g1:0≤c1%8∧c1%8≤255
 g2:0≤c2%8∧c2%8≤255
 g3:0≤c3%8∧c3%8≤255
 g4:-2147483648≤c1*c2-c3*9∧c1*c2-c3*9≤2147483647
theorem bytes_are (c0:Int) {c1 c2 c3:Int} (z1:0≤c1∧c1≤255) (z2:0≤c2∧c2≤255) (z3:0≤c3∧c3≤255):Bytes c0 c1 c2 c3:=by
 have h0:0≤c1*c2:=Int.mul_nonneg z1.1 z2.1
 have h1:c1*c2≤255*255:=Int.mul_le_mul z1.2 z2.2 z2.1 (by decide)
 generalize hm:c1*c2=m at h0 h1
 refine⟨k32 (by omega) (by omega),k32 (by omega) (by omega),k32 (by omega) (by omega),?_,k32 (by omega) (by omega),?_,by omega,by omega,by omega,?_⟩
 ·rw[hm];exact k32 (by omega) (by omega)
 ·rw[hm];exact k32 (by omega) (by omega)
 ·rw[hm];omega
theorem mod12 (c:Int):∃ k:Nat,c%12=(k:Int)∧k<12∧(k:Int)<12∧(0:Int)≤(k:Int):=by
 obtain⟨k,hk⟩:=Int.eq_ofNat_of_zero_le (show 0≤c%12 by omega)
 exact⟨k,hk,by omega,by omega,by omega⟩
def mw (l:List Int):List Value:=l.map fun x=>Value.int .u32 x
theorem kind_any (s:ByteArray) (w:World):Calls Tryz.prog 19 #[.string s] w fun e w'=>e=.returned (.int .u8 (z0q s.toList).k)∧Below w.heap.size w w':=
 (rKind s (z0q s.toList).k (z0q s.toList).o (z0q s.toList).g (z0q s.toList).f rfl w).mono fun _ _ h=>⟨h.1,by rw[h.2];exact (Below.refl _ _).alloc (Nat.le_refl _) _⟩
def lenOf:Value→Nat
 | .slice _ n _=>n
 | _=>0
structure z3s (w:World) (v:Value) (l:List Int) (wr:World):Prop where
 own:wr.ownsRow w.heap.size 28 1 v l.length (mw l)
 u:∀ z∈l,U32 z
 below:Below w.heap.size w wr
theorem z3s.on {w:World} {v:Value} {l:List Int} {wr wr':World} (h:z3s w v l wr) (hb:Below wr.heap.size wr wr'):z3s w v l wr':=
 ⟨z2z (O:=fun _=>False) h.own (Chg.of hb) (fun _ _ e=>e),h.u,z0e h.below hb⟩
theorem z3s.turn {w : World} {v : Value} {l : List Int} {wr wr' : World} {ib : Nat} (h : z3s w v l wr) (hc : Chg (· = ib) wr wr') (hi : w.heap.size ≤ ib) (hv : v.ownBlock ≠ some ib) : z3s w v l wr' :=
  ⟨z2z h.own hc (fun k hk e=>hv (by rw[← e];exact hk)),h.u,hc.below h.below h.below.size (fun k e=>by rw[e];exact hi)⟩
theorem kProgram (sa:Option Addr) (n cap:Nat) (zs:List Int) (w:World) (b off:Nat) (hm:n≤maxLen) (ha:0<n→sa=some ⟨b,off,none⟩∧b<w.heap.size) (hc:∀ i,i<n→w.cell? ⟨b,off+i,none⟩=some (.int .u8 (zs.getD i 0))) (hz:∀ i,0≤zs.getD i 0∧zs.getD i 0≤255) :
  Calls Tryz.prog 6 #[.slice sa n cap] w fun e w'=>∃ sb cp l,l.length=80∧e=.returned (.slice sb 80 cp)∧z3s w (.slice sb 80 cp) l w':=by
 have HA:Hid _:=ha
 have HC:Hid _:=hc
 have HZ:Hid _:=hz
 have hmo:Tryz.prog.follows .mixedOrders=true:=by kernel_rfl
 obtain⟨ii,hi0,hz0,hz1,hz2⟩:=info_parts infoM
 have hone:=one_built
 clear ha hc hz
 have R0:Hid (z3s w (.slice none 0 0) [] w):=⟨⟨rfl,Or.inl ⟨rfl,rfl⟩⟩,fun z h=>(by cases h),Below.refl _ _⟩
 go_enter Tryz.func6,Tryz.ntmps6
 go_wp2_with fail
 go_loopw [3,4] (fun v i wr=>∃ (l:List Int) (sb:Option Addr) (cp j:Nat),l.length≤60∧v=.slice sb l.length cp∧j=4*l.length∧i=.int .i64 j∧Hid (z3s w (.slice sb l.length cp) l wr)) (fun _ i _=>240-(intOf i).toNat)
 case atStart=>exact⟨[],none,0,0,Nat.zero_le _,rfl,rfl,rfl,R0.out⟩
 case round=>
  clear R0
  obtain⟨l,sb,cp,j,hq,rfl,hj,rfl,hr⟩:=hrel
  have hbr:Hid (Below w.heap.size w wr):=hr.out.below
  have HJ:Hid (j=4*l.length):=hj
  have hj240:j≤240:=by omega
  clear hj
  by_cases hgo:j+3<n∧l.length<60
  ·obtain⟨h1,h2⟩:=hgo
   obtain⟨ha1,ha2⟩:=HA.out (by omega)
   subst ha1
   have HB:Hid (∀ W,Below w.heap.size w W→W.cell? ⟨b,off+j,none⟩=some (.int .u8 (zs.getD j 0))∧W.cell? ⟨b,off+(j+1),none⟩=some (.int .u8 (zs.getD (j+1) 0))∧W.cell? ⟨b,off+(j+2),none⟩=some (.int .u8 (zs.getD (j+2) 0))∧W.cell? ⟨b,off+(j+3),none⟩=some (.int .u8 (zs.getD (j+3) 0))):=fun W hB=>
    ⟨by rw[hB.cell (p:=⟨b,off+j,none⟩) ha2];exact HC.out j (by omega),by rw[hB.cell (p:=⟨b,off+(j+1),none⟩) ha2];exact HC.out (j+1) (by omega),by rw[hB.cell (p:=⟨b,off+(j+2),none⟩) ha2];exact HC.out (j+2) (by omega),by rw[hB.cell (p:=⟨b,off+(j+3),none⟩) ha2];exact HC.out (j+3) (by omega)⟩
   have z0:=HZ.out j
   have z1:=HZ.out (j+1)
   have z2:=HZ.out (j+2)
   have z3:=HZ.out (j+3)
   generalize zs.getD j 0=c0 at *
   generalize zs.getD (j+1) 0=c1 at *
   generalize zs.getD (j+2) 0=c2 at *
   generalize zs.getD (j+3) 0=c3 at *
   have BY:Hid _:=bytes_are c0 z1 z2 z3
   have CI:Hid _:=rIns c0 (c1%8) (c2%8) (c3%8) (c1*c2-c3*9) z0 BY.out.g1 BY.out.g2 BY.out.g3 BY.out.g4
   generalize opAt (c0%53).toNat=sn at *
   generalize (insN c0 (c1%8) (c2%8) (c3%8) (c1*c2-c3*9)).d=di at *
   generalize (insN c0 (c1%8) (c2%8) (c3%8) (c1*c2-c3*9)).a=ai at *
   generalize (insN c0 (c1%8) (c2%8) (c3%8) (c1*c2-c3*9)).b=bi at *
   generalize (insN c0 (c1%8) (c2%8) (c3%8) (c1*c2-c3*9)).m=mi at *
   have NU:Hid _:=nums HJ.out h1 h2
   have d1:=NU.out.d1
   have d2:=NU.out.d2
   have w3:=w64_3 hj240
   have HR:Hid _:=hr.out
   have Z0:Hid _:=z0
   have Z1:Hid _:=z1
   have Z2:Hid _:=z2
   have Z3:Hid _:=z3
   have HQ:Hid _:=hq
   have HJ4:Hid _:=hj240
   have HM:Hid _:=hm
   clear hr z0 z1 z2 z3 hq h1 h2 hj240 hm ha2
   go_wp2_with fail
   have z1:=Z1.out
   have z2:=Z2.out
   have z3:=Z3.out
   have hj240:=HJ4.out
   clear w3
   have w1:=k64_1 hj240
   have w2:=k64_2 hj240
   have w3:=k64_3 hj240
   obtain⟨i1,i2,i3,l0,l1,l2,l3,n1,n2,n3,_,_,_,_,_,_,_⟩:=NU.out
   obtain⟨v1,v2,v3,v4,v5,v6,_,_,_,_⟩:=BY.out
   have r1:c1.tmod 8=c1%8:=Int.tmod_eq_emod_of_nonneg z1.1
   have r2:c2.tmod 8=c2%8:=Int.tmod_eq_emod_of_nonneg z2.1
   have r3:c3.tmod 8=c3%8:=Int.tmod_eq_emod_of_nonneg z3.1
   clear z1 z2 z3 hj240
   refine z6e [⟨44,5,52,45,62,#[.string ⟨#[]⟩,.int .i64 0,.int .i64 0,.int .i64 0,.int .i32 0],#[.string sn,.int .i64 di,.int .i64 ai,.int .i64 bi,.int .i32 mi]⟩]
    [.slice (some ⟨b,off,none⟩) n cap,.int .i64 j,.pointer (some ⟨b,off+j,none⟩),.int .u8 c0,.slice (some ⟨b,off,none⟩) n cap,.int .i64 j,.int .i64 (j+1),.pointer (some ⟨b,off+(j+1),none⟩),.int .u8 c1,.int .u8 (c1%8),.slice (some ⟨b,off,none⟩) n cap,.int .i64 j,.int .i64 (j+2),.pointer (some ⟨b,off+(j+2),none⟩),.int .u8 c2,.int .u8 (c2%8),.slice (some ⟨b,off,none⟩) n cap,.int .i64 j,.int .i64 (j+3),.pointer (some ⟨b,off+(j+3),none⟩),.int .u8 c3,.int .u8 (c3%8),.slice (some ⟨b,off,none⟩) n cap,.int .i64 j,.int .i64 (j+1),.pointer (some ⟨b,off+(j+1),none⟩),.int .u8 c1,.int .i32 c1,.slice (some ⟨b,off,none⟩) n cap,.int .i64 j,.int .i64 (j+2),.pointer (some ⟨b,off+(j+2),none⟩),.int .u8 c2,.int .i32 c2,.int .i32 (c1*c2),.slice (some ⟨b,off,none⟩) n cap,.int .i64 j,.int .i64 (j+3),.pointer (some ⟨b,off+(j+3),none⟩),.int .u8 c3,.int .i32 c3,.int .i32 (c3*9),.int .i32 (c1*c2-c3*9),.agg #[.string sn,.int .i64 di,.int .i64 ai,.int .i64 bi,.int .i32 mi],undef,undef]
    hmo (by kernel_rfl) ?_ ?_ ?_ ?_ ?_
   ·intro r hr
    simp only[List.mem_cons,List.not_mem_nil,or_false] at hr
    subst hr
    exact (by decide:5<157)
   ·generalize hl:lay _ _ _=af
    have e0:af.tmps[0]?.getD undef=.slice (some ⟨b,off,none⟩) n cap:=by rw[← hl];kernel_rfl
    have e4:af.tmps[4]?.getD undef=.int .i64 j:=by rw[← hl];kernel_rfl
    have e19:af.tmps[19]?.getD undef=.slice (some ⟨b,off,none⟩) n cap:=by rw[← hl];kernel_rfl
    have e20:af.tmps[20]?.getD undef=.int .i64 j:=by rw[← hl];kernel_rfl
    have e21:af.tmps[21]?.getD undef=.pointer (some ⟨b,off+j,none⟩):=by rw[← hl];kernel_rfl
    have e22:af.tmps[22]?.getD undef=.int .u8 c0:=by rw[← hl];kernel_rfl
    have e23:af.tmps[23]?.getD undef=.slice (some ⟨b,off,none⟩) n cap:=by rw[← hl];kernel_rfl
    have e24:af.tmps[24]?.getD undef=.int .i64 j:=by rw[← hl];kernel_rfl
    have e25:af.tmps[25]?.getD undef=.int .i64 (j+1):=by rw[← hl];kernel_rfl
    have e26:af.tmps[26]?.getD undef=.pointer (some ⟨b,off+(j+1),none⟩):=by rw[← hl];kernel_rfl
    have e27:af.tmps[27]?.getD undef=.int .u8 c1:=by rw[← hl];kernel_rfl
    have e28:af.tmps[28]?.getD undef=.int .u8 (c1%8):=by rw[← hl];kernel_rfl
    have e29:af.tmps[29]?.getD undef=.slice (some ⟨b,off,none⟩) n cap:=by rw[← hl];kernel_rfl
    have e30:af.tmps[30]?.getD undef=.int .i64 j:=by rw[← hl];kernel_rfl
    have e31:af.tmps[31]?.getD undef=.int .i64 (j+2):=by rw[← hl];kernel_rfl
    have e32:af.tmps[32]?.getD undef=.pointer (some ⟨b,off+(j+2),none⟩):=by rw[← hl];kernel_rfl
    have e33:af.tmps[33]?.getD undef=.int .u8 c2:=by rw[← hl];kernel_rfl
    have e34:af.tmps[34]?.getD undef=.int .u8 (c2%8):=by rw[← hl];kernel_rfl
    have e35:af.tmps[35]?.getD undef=.slice (some ⟨b,off,none⟩) n cap:=by rw[← hl];kernel_rfl
    have e36:af.tmps[36]?.getD undef=.int .i64 j:=by rw[← hl];kernel_rfl
    have e37:af.tmps[37]?.getD undef=.int .i64 (j+3):=by rw[← hl];kernel_rfl
    have e38:af.tmps[38]?.getD undef=.pointer (some ⟨b,off+(j+3),none⟩):=by rw[← hl];kernel_rfl
    have e39:af.tmps[39]?.getD undef=.int .u8 c3:=by rw[← hl];kernel_rfl
    have e40:af.tmps[40]?.getD undef=.int .u8 (c3%8):=by rw[← hl];kernel_rfl
    have e41:af.tmps[41]?.getD undef=.slice (some ⟨b,off,none⟩) n cap:=by rw[← hl];kernel_rfl
    have e42:af.tmps[42]?.getD undef=.int .i64 j:=by rw[← hl];kernel_rfl
    have e43:af.tmps[43]?.getD undef=.int .i64 (j+1):=by rw[← hl];kernel_rfl
    have e44:af.tmps[44]?.getD undef=.pointer (some ⟨b,off+(j+1),none⟩):=by rw[← hl];kernel_rfl
    have e45:af.tmps[45]?.getD undef=.int .u8 c1:=by rw[← hl];kernel_rfl
    have e46:af.tmps[46]?.getD undef=.int .i32 c1:=by rw[← hl];kernel_rfl
    have e47:af.tmps[47]?.getD undef=.slice (some ⟨b,off,none⟩) n cap:=by rw[← hl];kernel_rfl
    have e48:af.tmps[48]?.getD undef=.int .i64 j:=by rw[← hl];kernel_rfl
    have e49:af.tmps[49]?.getD undef=.int .i64 (j+2):=by rw[← hl];kernel_rfl
    have e50:af.tmps[50]?.getD undef=.pointer (some ⟨b,off+(j+2),none⟩):=by rw[← hl];kernel_rfl
    have e51:af.tmps[51]?.getD undef=.int .u8 c2:=by rw[← hl];kernel_rfl
    have e52:af.tmps[52]?.getD undef=.int .i32 c2:=by rw[← hl];kernel_rfl
    have e53:af.tmps[53]?.getD undef=.int .i32 (c1*c2):=by rw[← hl];kernel_rfl
    have e54:af.tmps[54]?.getD undef=.slice (some ⟨b,off,none⟩) n cap:=by rw[← hl];kernel_rfl
    have e55:af.tmps[55]?.getD undef=.int .i64 j:=by rw[← hl];kernel_rfl
    have e56:af.tmps[56]?.getD undef=.int .i64 (j+3):=by rw[← hl];kernel_rfl
    have e57:af.tmps[57]?.getD undef=.pointer (some ⟨b,off+(j+3),none⟩):=by rw[← hl];kernel_rfl
    have e58:af.tmps[58]?.getD undef=.int .u8 c3:=by rw[← hl];kernel_rfl
    have e59:af.tmps[59]?.getD undef=.int .i32 c3:=by rw[← hl];kernel_rfl
    have e60:af.tmps[60]?.getD undef=.int .i32 (c3*9):=by rw[← hl];kernel_rfl
    have e61:af.tmps[61]?.getD undef=.int .i32 (c1*c2-c3*9):=by rw[← hl];kernel_rfl
    have e62:af.tmps[62]?.getD undef=.agg #[.string sn,.int .i64 di,.int .i64 ai,.int .i64 bi,.int .i32 mi]:=by rw[← hl];kernel_rfl
    clear hl
    refine And.intro (fun w' hw=>z0d (by simp[execOp,go_sem,e0])) ?_
    refine And.intro (fun w' hw=>z0d (by simp[execOp,go_sem,e4])) ?_
    refine And.intro (fun w' hw=>z0d (by simp[execOp,go_sem,e19,e20,l0])) ?_
    refine And.intro (fun w' hw=>by
     have q:=(HB.out _ (z0e hbr.out hw)).1
     exact z0d (by simp[execOp,go_sem,e21,q])) ?_
    refine And.intro (fun w' hw=>z0d (by simp[execOp,go_sem,e0])) ?_
    refine And.intro (fun w' hw=>z0d (by simp[execOp,go_sem,e4])) ?_
    refine And.intro (fun w' hw=>z0d (by simp[execOp,go_sem,e24,w1])) ?_
    refine And.intro (fun w' hw=>z0d (by simp[execOp,go_sem,e23,e25,i1,l1,n1])) ?_
    refine And.intro (fun w' hw=>by
     have q:=(HB.out _ (z0e hbr.out hw)).2.1
     exact z0d (by simp[execOp,go_sem,e26,q])) ?_
    refine And.intro (fun w' hw=>z0d (by simp[execOp,go_sem,e27,r1])) ?_
    refine And.intro (fun w' hw=>z0d (by simp[execOp,go_sem,e0])) ?_
    refine And.intro (fun w' hw=>z0d (by simp[execOp,go_sem,e4])) ?_
    refine And.intro (fun w' hw=>z0d (by simp[execOp,go_sem,e30,w2])) ?_
    refine And.intro (fun w' hw=>z0d (by simp[execOp,go_sem,e29,e31,i2,l2,n2])) ?_
    refine And.intro (fun w' hw=>by
     have q:=(HB.out _ (z0e hbr.out hw)).2.2.1
     exact z0d (by simp[execOp,go_sem,e32,q])) ?_
    refine And.intro (fun w' hw=>z0d (by simp[execOp,go_sem,e33,r2])) ?_
    refine And.intro (fun w' hw=>z0d (by simp[execOp,go_sem,e0])) ?_
    refine And.intro (fun w' hw=>z0d (by simp[execOp,go_sem,e4])) ?_
    refine And.intro (fun w' hw=>z0d (by simp[execOp,go_sem,e36,w3])) ?_
    refine And.intro (fun w' hw=>z0d (by simp[execOp,go_sem,e35,e37,i3,l3,n3])) ?_
    refine And.intro (fun w' hw=>by
     have q:=(HB.out _ (z0e hbr.out hw)).2.2.2
     exact z0d (by simp[execOp,go_sem,e38,q])) ?_
    refine And.intro (fun w' hw=>z0d (by simp[execOp,go_sem,e39,r3])) ?_
    refine And.intro (fun w' hw=>z0d (by simp[execOp,go_sem,e0])) ?_
    refine And.intro (fun w' hw=>z0d (by simp[execOp,go_sem,e4])) ?_
    refine And.intro (fun w' hw=>z0d (by simp[execOp,go_sem,e42,w1])) ?_
    refine And.intro (fun w' hw=>z0d (by simp[execOp,go_sem,e41,e43,i1,l1,n1])) ?_
    refine And.intro (fun w' hw=>by
     have q:=(HB.out _ (z0e hbr.out hw)).2.1
     exact z0d (by simp[execOp,go_sem,e44,q])) ?_
    refine And.intro (fun w' hw=>z0d (by simp[execOp,go_sem,e45,v1])) ?_
    refine And.intro (fun w' hw=>z0d (by simp[execOp,go_sem,e0])) ?_
    refine And.intro (fun w' hw=>z0d (by simp[execOp,go_sem,e4])) ?_
    refine And.intro (fun w' hw=>z0d (by simp[execOp,go_sem,e48,w2])) ?_
    refine And.intro (fun w' hw=>z0d (by simp[execOp,go_sem,e47,e49,i2,l2,n2])) ?_
    refine And.intro (fun w' hw=>by
     have q:=(HB.out _ (z0e hbr.out hw)).2.2.1
     exact z0d (by simp[execOp,go_sem,e50,q])) ?_
    refine And.intro (fun w' hw=>z0d (by simp[execOp,go_sem,e51,v2])) ?_
    refine And.intro (fun w' hw=>z0d (by simp[execOp,go_sem,e46,e52,v4])) ?_
    refine And.intro (fun w' hw=>z0d (by simp[execOp,go_sem,e0])) ?_
    refine And.intro (fun w' hw=>z0d (by simp[execOp,go_sem,e4])) ?_
    refine And.intro (fun w' hw=>z0d (by simp[execOp,go_sem,e55,w3])) ?_
    refine And.intro (fun w' hw=>z0d (by simp[execOp,go_sem,e54,e56,i3,l3,n3])) ?_
    refine And.intro (fun w' hw=>by
     have q:=(HB.out _ (z0e hbr.out hw)).2.2.2
     exact z0d (by simp[execOp,go_sem,e57,q])) ?_
    refine And.intro (fun w' hw=>z0d (by simp[execOp,go_sem,e58,v3])) ?_
    refine And.intro (fun w' hw=>z0d (by simp[execOp,go_sem,e59,v5])) ?_
    refine And.intro (fun w' hw=>z0d (by simp[execOp,go_sem,e53,e60,v6])) ?_
    refine And.intro (fun w' hw=>z1k 18 #[.int .u8 c0,.int .u8 (c1%8),.int .u8 (c2%8),.int .u8 (c3%8),.int .i32 (c1*c2-c3*9)] (by simp[go_sem,e22,e28,e34,e40,e61]) (CI.out _)) ?_
    exact⟨True.intro,True.intro,True.intro⟩
   ·intro r hr
    simp only[List.mem_cons,List.not_mem_nil,or_false] at hr
    subst hr
    exact ins_alloc
   ·intro r hr
    simp only[List.mem_cons,List.not_mem_nil,or_false] at hr
    generalize hl:lay _ _ _=af
    have e62:af.eval (.tmp 62)=.agg #[.string sn,.int .i64 di,.int .i64 ai,.int .i64 bi,.int .i32 mi]:=by rw[← hl];kernel_rfl
    clear hl
    subst hr
    intro w' b' hb
    rw[e62]
    exact z8v _ _ #[.string ⟨#[]⟩,.int .i64 0,.int .i64 0,.int .i64 0,.int .i32 0] #[.string sn,.int .i64 di,.int .i64 ai,.int .i64 bi,.int .i32 mi] ins_info rfl (by simp[Value.oneCell']) b' hb
   intro β W5 hW hbl _
   have I5:=(hbl _ (List.mem_cons_self)).2.2
   have J5:=(hbl _ (List.mem_cons_self)).1
   simp only at I5 J5
   simp[z3o,lay,Act.put]
   generalize β 5=ib at *
   have hW':Below wr.heap.size wr W5:=hW
   have P5:Hid (z3s w (.slice sb l.length cp) l W5):=HR.out.on hW'
   have hbi:wr.heap.size≤ib:=J5
   have hib:w.heap.size≤ib:=Nat.le_trans hbr.out.size hbi
   have hvb:(Value.slice sb l.length cp).ownBlock≠some ib:=fun e=>absurd (z3k HR.out.own ib e).2 (Nat.not_lt.2 hbi)
   have j0:=(z0a I5).1 0 (.string sn) rfl
   clear hbl hW hW' HR hbr CI w1 w2 w3 v1 v2 v3 v4 v5 v6 BY
   have y1:=w64_1 HJ4.out
   have y2:=w64_2 HJ4.out
   have y3:=w64_3 HJ4.out
   have y4:=w64_4 HJ4.out
   go_wp2_with fail
   refine (kind_any _ _).mono ?_
   rintro e w6 ⟨rfl,b6⟩
   have P6:Hid _:=P5.out.on b6
   have I6:=z0f I5 b6
   clear b6 P5 I5 j0
   generalize (z0q sn.toList).k=kk at *
   have i0':=(z0a I6).1 0 (.string sn) rfl
   have i1':=(z0a I6).1 1 (.int .i64 di) rfl
   have i2':=(z0a I6).1 2 (.int .i64 ai) rfl
   have i3':=(z0a I6).1 3 (.int .i64 bi) rfl
   have i4':=(z0a I6).1 4 (.int .i32 mi) rfl
   have f4':=(z0a I6).2.1 4
   obtain⟨q0,q1,q2,q3⟩:=HB.out _ P6.out.below
   by_cases k1:kk=66
   ·have e1:(kk==66)=true:=by simpa using k1
    clear k1
    go_wp2_with fail
    refine (kWordX _ _ _ _ _ _).mono ?_
    rintro e w8 ⟨x,hx,rfl,b8⟩
    have HX:Hid (U32 x):=hx
    have P8:Hid (z3s w (.slice sb l.length cp) l w8):=(P6.out.turn (ib:=ib) ((Chg.refl _ _).own _) hib hvb).on b8
    obtain⟨q0,q1,q2,q3⟩:=HB.out _ P8.out.below
    clear b8 P6 I6 hx
    by_cases h250:250≤c0
    ·have d5:decide ((250:Int)≤c0)=true:=decide_eq_true h250
     have d6:decide (c0 ≥ (250:Int))=true:=decide_eq_true h250
     go_wp2_with fail
     go_quiet (fail)
     have P9:Hid (z3s w (.slice sb l.length cp) l (w8.drewN nq)):=P8.out.on (z0u w8.heap.size w8 nq)
     generalize w8.drewN nq=W9 at *
     have HN:Hid (∀ q u,[Value.int .u32 (bits .or .u32 (c1%4294967296*16777216%4294967296) (c2%4294967296*8%4294967296))][q]?=some u→(W9.alloc (.cells #[.int .u32 (bits .or .u32 (c1%4294967296*16777216%4294967296) (c2%4294967296*8%4294967296))] 28)).cell? ((⟨W9.heap.size,0,none⟩:Addr).add q)=some u):=fun q u hqu=>by
      have hq0:q=0:=by
       have:=(List.getElem?_eq_some_iff.1 hqu).1
       simpa using this
      subst hq0
      rw[Addr.add_mid]
      refine (z0a (z0g W9 _)).1 _ _ ?_
      simpa using hqu
     have hsz:w.heap.size≤W9.heap.size:=P9.out.below.size
     go_wp2_with (first | (refine wpList_append_lies _ rfl (.tmp 142) (.tmp 144) 23 rfl w.heap.size 28 ii _ 1 4 Tryz.underlying23 hi0 hz0 hz1 hz2 rfl Nat.one_pos _ l.length (mw l) rfl (World.ownsRow.alloc P9.out.own _) ⟨W9.heap.size,0,none⟩ 1 1 [.int .u32 (bits .or .u32 (c1%4294967296*16777216%4294967296) (c2%4294967296*8%4294967296))] rfl rfl HN.out (by simp[Value.oneCell']) Nat.one_pos NU.out.m1 NU.out.m2 (by rw[World.size_alloc];exact Nat.le_succ_of_le hsz) _ rfl ?_;intro gg cq w9 hown hgrow hat hlt))
     have hB9:Below w.heap.size w w9:=(P9.out.below.alloc P9.out.below.size _).grown hgrow (by rw[World.size_alloc];exact Nat.le_succ_of_le hsz) (fun k e=>(z3k P9.out.own k e).1)
     refine⟨⟨l++[bits .or .u32 (c1%4294967296*16777216%4294967296) (c2%4294967296*8%4294967296)],some ⟨gg,0,none⟩,cq,j+4,by rw[List.length_append];exact NU.out.m3,by rw[List.length_append];rfl,by rw[List.length_append];exact NU.out.m4,by go_num,⟨?_,?_,hB9⟩⟩,by simp[intOf];omega⟩
     ·rw[show (l++[bits .or .u32 (c1%4294967296*16777216%4294967296) (c2%4294967296*8%4294967296)]).length=l.length+1 by simp,show mw (l++[bits .or .u32 (c1%4294967296*16777216%4294967296) (c2%4294967296*8%4294967296)])=mw l++[.int .u32 (bits .or .u32 (c1%4294967296*16777216%4294967296) (c2%4294967296*8%4294967296))] by simp[mw]]
      exact hown
     ·intro z hzz
      rcases List.mem_append.1 hzz with q | q
      ·exact P9.out.u z q
      ·rw[List.mem_singleton.1 q];exact z1t _ _ _
    ·have d5:decide ((250:Int)≤c0)=false:=decide_eq_false h250
     have d6:decide (c0 ≥ (250:Int))=false:=decide_eq_false h250
     have HN:Hid (∀ q u,[Value.int .u32 (x)][q]?=some u→(w8.alloc (.cells #[.int .u32 (x)] 28)).cell? ((⟨w8.heap.size,0,none⟩:Addr).add q)=some u):=fun q u hqu=>by
      have hq0:q=0:=by
       have:=(List.getElem?_eq_some_iff.1 hqu).1
       simpa using this
      subst hq0
      rw[Addr.add_mid]
      refine (z0a (z0g w8 _)).1 _ _ ?_
      simpa using hqu
     have hsz:w.heap.size≤w8.heap.size:=P8.out.below.size
     go_wp2_with (first | (refine wpList_append_lies _ rfl (.tmp 142) (.tmp 144) 23 rfl w.heap.size 28 ii _ 1 4 Tryz.underlying23 hi0 hz0 hz1 hz2 rfl Nat.one_pos _ l.length (mw l) rfl (World.ownsRow.alloc P8.out.own _) ⟨w8.heap.size,0,none⟩ 1 1 [.int .u32 (x)] rfl rfl HN.out (by simp[Value.oneCell']) Nat.one_pos NU.out.m1 NU.out.m2 (by rw[World.size_alloc];exact Nat.le_succ_of_le hsz) _ rfl ?_;intro gg cq w9 hown hgrow hat hlt))
     have hB9:Below w.heap.size w w9:=(P8.out.below.alloc P8.out.below.size _).grown hgrow (by rw[World.size_alloc];exact Nat.le_succ_of_le hsz) (fun k e=>(z3k P8.out.own k e).1)
     refine⟨⟨l++[x],some ⟨gg,0,none⟩,cq,j+4,by rw[List.length_append];exact NU.out.m3,by rw[List.length_append];rfl,by rw[List.length_append];exact NU.out.m4,by go_num,⟨?_,?_,hB9⟩⟩,by simp[intOf];omega⟩
     ·rw[show (l++[x]).length=l.length+1 by simp,show mw (l++[x])=mw l++[.int .u32 (x)] by simp[mw]]
      exact hown
     ·intro z hzz
      rcases List.mem_append.1 hzz with q | q
      ·exact P8.out.u z q
      ·rw[List.mem_singleton.1 q];exact HX.out
   have e1:(kk==66)=false:=by simpa using k1
   clear k1
   by_cases k2:kk=74
   ·have e2:(kk==74)=true:=by simpa using k2
    clear k2
    go_wp2_with fail
    refine (kWordX _ _ _ _ _ _).mono ?_
    rintro e w8 ⟨x,hx,rfl,b8⟩
    have HX:Hid (U32 x):=hx
    have P8:Hid (z3s w (.slice sb l.length cp) l w8):=(P6.out.turn (ib:=ib) ((Chg.refl _ _).own _) hib hvb).on b8
    obtain⟨q0,q1,q2,q3⟩:=HB.out _ P8.out.below
    clear b8 P6 I6 hx
    by_cases h250:250≤c0
    ·have d5:decide ((250:Int)≤c0)=true:=decide_eq_true h250
     have d6:decide (c0 ≥ (250:Int))=true:=decide_eq_true h250
     go_wp2_with fail
     go_quiet (fail)
     have P9:Hid (z3s w (.slice sb l.length cp) l (w8.drewN nq)):=P8.out.on (z0u w8.heap.size w8 nq)
     generalize w8.drewN nq=W9 at *
     have HN:Hid (∀ q u,[Value.int .u32 (bits .or .u32 (c1%4294967296*16777216%4294967296) (c2%4294967296*8%4294967296))][q]?=some u→(W9.alloc (.cells #[.int .u32 (bits .or .u32 (c1%4294967296*16777216%4294967296) (c2%4294967296*8%4294967296))] 28)).cell? ((⟨W9.heap.size,0,none⟩:Addr).add q)=some u):=fun q u hqu=>by
      have hq0:q=0:=by
       have:=(List.getElem?_eq_some_iff.1 hqu).1
       simpa using this
      subst hq0
      rw[Addr.add_mid]
      refine (z0a (z0g W9 _)).1 _ _ ?_
      simpa using hqu
     have hsz:w.heap.size≤W9.heap.size:=P9.out.below.size
     go_wp2_with (first | (refine wpList_append_lies _ rfl (.tmp 142) (.tmp 144) 23 rfl w.heap.size 28 ii _ 1 4 Tryz.underlying23 hi0 hz0 hz1 hz2 rfl Nat.one_pos _ l.length (mw l) rfl (World.ownsRow.alloc P9.out.own _) ⟨W9.heap.size,0,none⟩ 1 1 [.int .u32 (bits .or .u32 (c1%4294967296*16777216%4294967296) (c2%4294967296*8%4294967296))] rfl rfl HN.out (by simp[Value.oneCell']) Nat.one_pos NU.out.m1 NU.out.m2 (by rw[World.size_alloc];exact Nat.le_succ_of_le hsz) _ rfl ?_;intro gg cq w9 hown hgrow hat hlt))
     have hB9:Below w.heap.size w w9:=(P9.out.below.alloc P9.out.below.size _).grown hgrow (by rw[World.size_alloc];exact Nat.le_succ_of_le hsz) (fun k e=>(z3k P9.out.own k e).1)
     refine⟨⟨l++[bits .or .u32 (c1%4294967296*16777216%4294967296) (c2%4294967296*8%4294967296)],some ⟨gg,0,none⟩,cq,j+4,by rw[List.length_append];exact NU.out.m3,by rw[List.length_append];rfl,by rw[List.length_append];exact NU.out.m4,by go_num,⟨?_,?_,hB9⟩⟩,by simp[intOf];omega⟩
     ·rw[show (l++[bits .or .u32 (c1%4294967296*16777216%4294967296) (c2%4294967296*8%4294967296)]).length=l.length+1 by simp,show mw (l++[bits .or .u32 (c1%4294967296*16777216%4294967296) (c2%4294967296*8%4294967296)])=mw l++[.int .u32 (bits .or .u32 (c1%4294967296*16777216%4294967296) (c2%4294967296*8%4294967296))] by simp[mw]]
      exact hown
     ·intro z hzz
      rcases List.mem_append.1 hzz with q | q
      ·exact P9.out.u z q
      ·rw[List.mem_singleton.1 q];exact z1t _ _ _
    ·have d5:decide ((250:Int)≤c0)=false:=decide_eq_false h250
     have d6:decide (c0 ≥ (250:Int))=false:=decide_eq_false h250
     have HN:Hid (∀ q u,[Value.int .u32 (x)][q]?=some u→(w8.alloc (.cells #[.int .u32 (x)] 28)).cell? ((⟨w8.heap.size,0,none⟩:Addr).add q)=some u):=fun q u hqu=>by
      have hq0:q=0:=by
       have:=(List.getElem?_eq_some_iff.1 hqu).1
       simpa using this
      subst hq0
      rw[Addr.add_mid]
      refine (z0a (z0g w8 _)).1 _ _ ?_
      simpa using hqu
     have hsz:w.heap.size≤w8.heap.size:=P8.out.below.size
     go_wp2_with (first | (refine wpList_append_lies _ rfl (.tmp 142) (.tmp 144) 23 rfl w.heap.size 28 ii _ 1 4 Tryz.underlying23 hi0 hz0 hz1 hz2 rfl Nat.one_pos _ l.length (mw l) rfl (World.ownsRow.alloc P8.out.own _) ⟨w8.heap.size,0,none⟩ 1 1 [.int .u32 (x)] rfl rfl HN.out (by simp[Value.oneCell']) Nat.one_pos NU.out.m1 NU.out.m2 (by rw[World.size_alloc];exact Nat.le_succ_of_le hsz) _ rfl ?_;intro gg cq w9 hown hgrow hat hlt))
     have hB9:Below w.heap.size w w9:=(P8.out.below.alloc P8.out.below.size _).grown hgrow (by rw[World.size_alloc];exact Nat.le_succ_of_le hsz) (fun k e=>(z3k P8.out.own k e).1)
     refine⟨⟨l++[x],some ⟨gg,0,none⟩,cq,j+4,by rw[List.length_append];exact NU.out.m3,by rw[List.length_append];rfl,by rw[List.length_append];exact NU.out.m4,by go_num,⟨?_,?_,hB9⟩⟩,by simp[intOf];omega⟩
     ·rw[show (l++[x]).length=l.length+1 by simp,show mw (l++[x])=mw l++[.int .u32 (x)] by simp[mw]]
      exact hown
     ·intro z hzz
      rcases List.mem_append.1 hzz with q | q
      ·exact P8.out.u z q
      ·rw[List.mem_singleton.1 q];exact HX.out
   have e2:(kk==74)=false:=by simpa using k2
   clear k2
   by_cases k3:kk=73∨kk=115
   ·have e3:((kk==73)=true)∨((kk==73)=false∧(kk==115)=true):=by
     rcases k3 with q | q
     ·exact Or.inl (by simpa using q)
     ·subst q;exact Or.inr ⟨rfl,rfl⟩
    clear k3
    by_cases h128:128≤c3
    ·have d3:decide ((128:Int)≤c3)=true:=decide_eq_true h128
     have d4:decide (c3 ≥ (128:Int))=true:=decide_eq_true h128
     rcases e3 with e3 | ⟨e3,e4⟩
     all_goals
      go_wp2_with fail
      refine (kWordX _ _ _ _ _ _).mono ?_
      rintro e w8 ⟨x,hx,rfl,b8⟩
      have HX:Hid (U32 x):=hx
      have P8:Hid (z3s w (.slice sb l.length cp) l w8):=(P6.out.turn (ib:=ib) ((Chg.refl _ _).own _) hib hvb).on b8
      obtain⟨q0,q1,q2,q3⟩:=HB.out _ P8.out.below
      clear b8 P6 I6 hx
      by_cases h250:250≤c0
      ·have d5:decide ((250:Int)≤c0)=true:=decide_eq_true h250
       have d6:decide (c0 ≥ (250:Int))=true:=decide_eq_true h250
       go_wp2_with fail
       go_quiet (fail)
       have P9:Hid (z3s w (.slice sb l.length cp) l (w8.drewN nq)):=P8.out.on (z0u w8.heap.size w8 nq)
       generalize w8.drewN nq=W9 at *
       have HN:Hid (∀ q u,[Value.int .u32 (bits .or .u32 (c1%4294967296*16777216%4294967296) (c2%4294967296*8%4294967296))][q]?=some u→(W9.alloc (.cells #[.int .u32 (bits .or .u32 (c1%4294967296*16777216%4294967296) (c2%4294967296*8%4294967296))] 28)).cell? ((⟨W9.heap.size,0,none⟩:Addr).add q)=some u):=fun q u hqu=>by
        have hq0:q=0:=by
         have:=(List.getElem?_eq_some_iff.1 hqu).1
         simpa using this
        subst hq0
        rw[Addr.add_mid]
        refine (z0a (z0g W9 _)).1 _ _ ?_
        simpa using hqu
       have hsz:w.heap.size≤W9.heap.size:=P9.out.below.size
       go_wp2_with (first | (refine wpList_append_lies _ rfl (.tmp 142) (.tmp 144) 23 rfl w.heap.size 28 ii _ 1 4 Tryz.underlying23 hi0 hz0 hz1 hz2 rfl Nat.one_pos _ l.length (mw l) rfl (World.ownsRow.alloc P9.out.own _) ⟨W9.heap.size,0,none⟩ 1 1 [.int .u32 (bits .or .u32 (c1%4294967296*16777216%4294967296) (c2%4294967296*8%4294967296))] rfl rfl HN.out (by simp[Value.oneCell']) Nat.one_pos NU.out.m1 NU.out.m2 (by rw[World.size_alloc];exact Nat.le_succ_of_le hsz) _ rfl ?_;intro gg cq w9 hown hgrow hat hlt))
       have hB9:Below w.heap.size w w9:=(P9.out.below.alloc P9.out.below.size _).grown hgrow (by rw[World.size_alloc];exact Nat.le_succ_of_le hsz) (fun k e=>(z3k P9.out.own k e).1)
       refine⟨⟨l++[bits .or .u32 (c1%4294967296*16777216%4294967296) (c2%4294967296*8%4294967296)],some ⟨gg,0,none⟩,cq,j+4,by rw[List.length_append];exact NU.out.m3,by rw[List.length_append];rfl,by rw[List.length_append];exact NU.out.m4,by go_num,⟨?_,?_,hB9⟩⟩,by simp[intOf];omega⟩
       ·rw[show (l++[bits .or .u32 (c1%4294967296*16777216%4294967296) (c2%4294967296*8%4294967296)]).length=l.length+1 by simp,show mw (l++[bits .or .u32 (c1%4294967296*16777216%4294967296) (c2%4294967296*8%4294967296)])=mw l++[.int .u32 (bits .or .u32 (c1%4294967296*16777216%4294967296) (c2%4294967296*8%4294967296))] by simp[mw]]
        exact hown
       ·intro z hzz
        rcases List.mem_append.1 hzz with q | q
        ·exact P9.out.u z q
        ·rw[List.mem_singleton.1 q];exact z1t _ _ _
      ·have d5:decide ((250:Int)≤c0)=false:=decide_eq_false h250
       have d6:decide (c0 ≥ (250:Int))=false:=decide_eq_false h250
       have HN:Hid (∀ q u,[Value.int .u32 (x)][q]?=some u→(w8.alloc (.cells #[.int .u32 (x)] 28)).cell? ((⟨w8.heap.size,0,none⟩:Addr).add q)=some u):=fun q u hqu=>by
        have hq0:q=0:=by
         have:=(List.getElem?_eq_some_iff.1 hqu).1
         simpa using this
        subst hq0
        rw[Addr.add_mid]
        refine (z0a (z0g w8 _)).1 _ _ ?_
        simpa using hqu
       have hsz:w.heap.size≤w8.heap.size:=P8.out.below.size
       go_wp2_with (first | (refine wpList_append_lies _ rfl (.tmp 142) (.tmp 144) 23 rfl w.heap.size 28 ii _ 1 4 Tryz.underlying23 hi0 hz0 hz1 hz2 rfl Nat.one_pos _ l.length (mw l) rfl (World.ownsRow.alloc P8.out.own _) ⟨w8.heap.size,0,none⟩ 1 1 [.int .u32 (x)] rfl rfl HN.out (by simp[Value.oneCell']) Nat.one_pos NU.out.m1 NU.out.m2 (by rw[World.size_alloc];exact Nat.le_succ_of_le hsz) _ rfl ?_;intro gg cq w9 hown hgrow hat hlt))
       have hB9:Below w.heap.size w w9:=(P8.out.below.alloc P8.out.below.size _).grown hgrow (by rw[World.size_alloc];exact Nat.le_succ_of_le hsz) (fun k e=>(z3k P8.out.own k e).1)
       refine⟨⟨l++[x],some ⟨gg,0,none⟩,cq,j+4,by rw[List.length_append];exact NU.out.m3,by rw[List.length_append];rfl,by rw[List.length_append];exact NU.out.m4,by go_num,⟨?_,?_,hB9⟩⟩,by simp[intOf];omega⟩
       ·rw[show (l++[x]).length=l.length+1 by simp,show mw (l++[x])=mw l++[.int .u32 (x)] by simp[mw]]
        exact hown
       ·intro z hzz
        rcases List.mem_append.1 hzz with q | q
        ·exact P8.out.u z q
        ·rw[List.mem_singleton.1 q];exact HX.out
    ·have d3:decide ((128:Int)≤c3)=false:=decide_eq_false h128
     have d4:decide (c3 ≥ (128:Int))=false:=decide_eq_false h128
     rcases e3 with e3 | ⟨e3,e4⟩
     all_goals
      go_wp2_with fail
      refine (kWordX _ _ _ _ _ _).mono ?_
      rintro e w8 ⟨x,hx,rfl,b8⟩
      have HX:Hid (U32 x):=hx
      have P8:Hid (z3s w (.slice sb l.length cp) l w8):=(P6.out).on b8
      obtain⟨q0,q1,q2,q3⟩:=HB.out _ P8.out.below
      clear b8 P6 I6 hx
      by_cases h250:250≤c0
      ·have d5:decide ((250:Int)≤c0)=true:=decide_eq_true h250
       have d6:decide (c0 ≥ (250:Int))=true:=decide_eq_true h250
       go_wp2_with fail
       go_quiet (fail)
       have P9:Hid (z3s w (.slice sb l.length cp) l (w8.drewN nq)):=P8.out.on (z0u w8.heap.size w8 nq)
       generalize w8.drewN nq=W9 at *
       have HN:Hid (∀ q u,[Value.int .u32 (bits .or .u32 (c1%4294967296*16777216%4294967296) (c2%4294967296*8%4294967296))][q]?=some u→(W9.alloc (.cells #[.int .u32 (bits .or .u32 (c1%4294967296*16777216%4294967296) (c2%4294967296*8%4294967296))] 28)).cell? ((⟨W9.heap.size,0,none⟩:Addr).add q)=some u):=fun q u hqu=>by
        have hq0:q=0:=by
         have:=(List.getElem?_eq_some_iff.1 hqu).1
         simpa using this
        subst hq0
        rw[Addr.add_mid]
        refine (z0a (z0g W9 _)).1 _ _ ?_
        simpa using hqu
       have hsz:w.heap.size≤W9.heap.size:=P9.out.below.size
       go_wp2_with (first | (refine wpList_append_lies _ rfl (.tmp 142) (.tmp 144) 23 rfl w.heap.size 28 ii _ 1 4 Tryz.underlying23 hi0 hz0 hz1 hz2 rfl Nat.one_pos _ l.length (mw l) rfl (World.ownsRow.alloc P9.out.own _) ⟨W9.heap.size,0,none⟩ 1 1 [.int .u32 (bits .or .u32 (c1%4294967296*16777216%4294967296) (c2%4294967296*8%4294967296))] rfl rfl HN.out (by simp[Value.oneCell']) Nat.one_pos NU.out.m1 NU.out.m2 (by rw[World.size_alloc];exact Nat.le_succ_of_le hsz) _ rfl ?_;intro gg cq w9 hown hgrow hat hlt))
       have hB9:Below w.heap.size w w9:=(P9.out.below.alloc P9.out.below.size _).grown hgrow (by rw[World.size_alloc];exact Nat.le_succ_of_le hsz) (fun k e=>(z3k P9.out.own k e).1)
       refine⟨⟨l++[bits .or .u32 (c1%4294967296*16777216%4294967296) (c2%4294967296*8%4294967296)],some ⟨gg,0,none⟩,cq,j+4,by rw[List.length_append];exact NU.out.m3,by rw[List.length_append];rfl,by rw[List.length_append];exact NU.out.m4,by go_num,⟨?_,?_,hB9⟩⟩,by simp[intOf];omega⟩
       ·rw[show (l++[bits .or .u32 (c1%4294967296*16777216%4294967296) (c2%4294967296*8%4294967296)]).length=l.length+1 by simp,show mw (l++[bits .or .u32 (c1%4294967296*16777216%4294967296) (c2%4294967296*8%4294967296)])=mw l++[.int .u32 (bits .or .u32 (c1%4294967296*16777216%4294967296) (c2%4294967296*8%4294967296))] by simp[mw]]
        exact hown
       ·intro z hzz
        rcases List.mem_append.1 hzz with q | q
        ·exact P9.out.u z q
        ·rw[List.mem_singleton.1 q];exact z1t _ _ _
      ·have d5:decide ((250:Int)≤c0)=false:=decide_eq_false h250
       have d6:decide (c0 ≥ (250:Int))=false:=decide_eq_false h250
       have HN:Hid (∀ q u,[Value.int .u32 (x)][q]?=some u→(w8.alloc (.cells #[.int .u32 (x)] 28)).cell? ((⟨w8.heap.size,0,none⟩:Addr).add q)=some u):=fun q u hqu=>by
        have hq0:q=0:=by
         have:=(List.getElem?_eq_some_iff.1 hqu).1
         simpa using this
        subst hq0
        rw[Addr.add_mid]
        refine (z0a (z0g w8 _)).1 _ _ ?_
        simpa using hqu
       have hsz:w.heap.size≤w8.heap.size:=P8.out.below.size
       go_wp2_with (first | (refine wpList_append_lies _ rfl (.tmp 142) (.tmp 144) 23 rfl w.heap.size 28 ii _ 1 4 Tryz.underlying23 hi0 hz0 hz1 hz2 rfl Nat.one_pos _ l.length (mw l) rfl (World.ownsRow.alloc P8.out.own _) ⟨w8.heap.size,0,none⟩ 1 1 [.int .u32 (x)] rfl rfl HN.out (by simp[Value.oneCell']) Nat.one_pos NU.out.m1 NU.out.m2 (by rw[World.size_alloc];exact Nat.le_succ_of_le hsz) _ rfl ?_;intro gg cq w9 hown hgrow hat hlt))
       have hB9:Below w.heap.size w w9:=(P8.out.below.alloc P8.out.below.size _).grown hgrow (by rw[World.size_alloc];exact Nat.le_succ_of_le hsz) (fun k e=>(z3k P8.out.own k e).1)
       refine⟨⟨l++[x],some ⟨gg,0,none⟩,cq,j+4,by rw[List.length_append];exact NU.out.m3,by rw[List.length_append];rfl,by rw[List.length_append];exact NU.out.m4,by go_num,⟨?_,?_,hB9⟩⟩,by simp[intOf];omega⟩
       ·rw[show (l++[x]).length=l.length+1 by simp,show mw (l++[x])=mw l++[.int .u32 (x)] by simp[mw]]
        exact hown
       ·intro z hzz
        rcases List.mem_append.1 hzz with q | q
        ·exact P8.out.u z q
        ·rw[List.mem_singleton.1 q];exact HX.out
   have e3:(kk==73)=false:=by rw[beq_eq_false_iff_ne];exact fun e=>k3 (Or.inl e)
   have e4:(kk==115)=false:=by rw[beq_eq_false_iff_ne];exact fun e=>k3 (Or.inr e)
   clear k3
   by_cases k5:kk=67
   ·have e5:(kk==67)=true:=by simpa using k5
    clear k5
    have t12:c3.tmod 12=c3%12:=Int.tmod_eq_emod_of_nonneg Z3.out.1
    obtain⟨kq,hkq,k12,kl,kp⟩:=mod12 c3
    rw[hkq] at t12
    clear hkq
    obtain⟨tv,htv⟩:=prog_tab kq k12
    have TB:(w6.alloc (.cells progTab 21)).cell? ⟨w6.heap.size,kq,none⟩=some (.int .i32 tv):=(z0a (z0g w6 _)).1 kq _ htv
    have A6:Below w6.heap.size w6 (w6.alloc (.cells progTab 21)):=(Below.refl _ _).alloc (Nat.le_refl _) _
    have I7:=z0f I6 A6
    have P7:Hid _:=P6.out.on A6
    have i0':=(z0a I7).1 0 (.string sn) rfl
    have i1':=(z0a I7).1 1 (.int .i64 di) rfl
    have i2':=(z0a I7).1 2 (.int .i64 ai) rfl
    have i3':=(z0a I7).1 3 (.int .i64 bi) rfl
    have i4':=(z0a I7).1 4 (.int .i32 mi) rfl
    have f4':=(z0a I7).2.1 4
    obtain⟨q0,q1,q2,q3⟩:=HB.out _ P7.out.below
    unfold progTab at TB i0' i1' i2' i3' i4' f4' q0 q1 q2 q3
    clear A6 I7
    go_wp2_with fail
    refine (kWordX _ _ _ _ _ _).mono ?_
    rintro e w8 ⟨x,hx,rfl,b8⟩
    have HX:Hid (U32 x):=hx
    have P8:Hid (z3s w (.slice sb l.length cp) l w8):=(P7.out.turn (ib:=ib) ((Chg.refl _ _).own _) hib hvb).on b8
    obtain⟨q0,q1,q2,q3⟩:=HB.out _ P8.out.below
    clear b8 P6 I6 hx
    by_cases h250:250≤c0
    ·have d5:decide ((250:Int)≤c0)=true:=decide_eq_true h250
     have d6:decide (c0 ≥ (250:Int))=true:=decide_eq_true h250
     go_wp2_with fail
     go_quiet (fail)
     have P9:Hid (z3s w (.slice sb l.length cp) l (w8.drewN nq)):=P8.out.on (z0u w8.heap.size w8 nq)
     generalize w8.drewN nq=W9 at *
     have HN:Hid (∀ q u,[Value.int .u32 (bits .or .u32 (c1%4294967296*16777216%4294967296) (c2%4294967296*8%4294967296))][q]?=some u→(W9.alloc (.cells #[.int .u32 (bits .or .u32 (c1%4294967296*16777216%4294967296) (c2%4294967296*8%4294967296))] 28)).cell? ((⟨W9.heap.size,0,none⟩:Addr).add q)=some u):=fun q u hqu=>by
      have hq0:q=0:=by
       have:=(List.getElem?_eq_some_iff.1 hqu).1
       simpa using this
      subst hq0
      rw[Addr.add_mid]
      refine (z0a (z0g W9 _)).1 _ _ ?_
      simpa using hqu
     have hsz:w.heap.size≤W9.heap.size:=P9.out.below.size
     go_wp2_with (first | (refine wpList_append_lies _ rfl (.tmp 142) (.tmp 144) 23 rfl w.heap.size 28 ii _ 1 4 Tryz.underlying23 hi0 hz0 hz1 hz2 rfl Nat.one_pos _ l.length (mw l) rfl (World.ownsRow.alloc P9.out.own _) ⟨W9.heap.size,0,none⟩ 1 1 [.int .u32 (bits .or .u32 (c1%4294967296*16777216%4294967296) (c2%4294967296*8%4294967296))] rfl rfl HN.out (by simp[Value.oneCell']) Nat.one_pos NU.out.m1 NU.out.m2 (by rw[World.size_alloc];exact Nat.le_succ_of_le hsz) _ rfl ?_;intro gg cq w9 hown hgrow hat hlt))
     have hB9:Below w.heap.size w w9:=(P9.out.below.alloc P9.out.below.size _).grown hgrow (by rw[World.size_alloc];exact Nat.le_succ_of_le hsz) (fun k e=>(z3k P9.out.own k e).1)
     refine⟨⟨l++[bits .or .u32 (c1%4294967296*16777216%4294967296) (c2%4294967296*8%4294967296)],some ⟨gg,0,none⟩,cq,j+4,by rw[List.length_append];exact NU.out.m3,by rw[List.length_append];rfl,by rw[List.length_append];exact NU.out.m4,by go_num,⟨?_,?_,hB9⟩⟩,by simp[intOf];omega⟩
     ·rw[show (l++[bits .or .u32 (c1%4294967296*16777216%4294967296) (c2%4294967296*8%4294967296)]).length=l.length+1 by simp,show mw (l++[bits .or .u32 (c1%4294967296*16777216%4294967296) (c2%4294967296*8%4294967296)])=mw l++[.int .u32 (bits .or .u32 (c1%4294967296*16777216%4294967296) (c2%4294967296*8%4294967296))] by simp[mw]]
      exact hown
     ·intro z hzz
      rcases List.mem_append.1 hzz with q | q
      ·exact P9.out.u z q
      ·rw[List.mem_singleton.1 q];exact z1t _ _ _
    ·have d5:decide ((250:Int)≤c0)=false:=decide_eq_false h250
     have d6:decide (c0 ≥ (250:Int))=false:=decide_eq_false h250
     have HN:Hid (∀ q u,[Value.int .u32 (x)][q]?=some u→(w8.alloc (.cells #[.int .u32 (x)] 28)).cell? ((⟨w8.heap.size,0,none⟩:Addr).add q)=some u):=fun q u hqu=>by
      have hq0:q=0:=by
       have:=(List.getElem?_eq_some_iff.1 hqu).1
       simpa using this
      subst hq0
      rw[Addr.add_mid]
      refine (z0a (z0g w8 _)).1 _ _ ?_
      simpa using hqu
     have hsz:w.heap.size≤w8.heap.size:=P8.out.below.size
     go_wp2_with (first | (refine wpList_append_lies _ rfl (.tmp 142) (.tmp 144) 23 rfl w.heap.size 28 ii _ 1 4 Tryz.underlying23 hi0 hz0 hz1 hz2 rfl Nat.one_pos _ l.length (mw l) rfl (World.ownsRow.alloc P8.out.own _) ⟨w8.heap.size,0,none⟩ 1 1 [.int .u32 (x)] rfl rfl HN.out (by simp[Value.oneCell']) Nat.one_pos NU.out.m1 NU.out.m2 (by rw[World.size_alloc];exact Nat.le_succ_of_le hsz) _ rfl ?_;intro gg cq w9 hown hgrow hat hlt))
     have hB9:Below w.heap.size w w9:=(P8.out.below.alloc P8.out.below.size _).grown hgrow (by rw[World.size_alloc];exact Nat.le_succ_of_le hsz) (fun k e=>(z3k P8.out.own k e).1)
     refine⟨⟨l++[x],some ⟨gg,0,none⟩,cq,j+4,by rw[List.length_append];exact NU.out.m3,by rw[List.length_append];rfl,by rw[List.length_append];exact NU.out.m4,by go_num,⟨?_,?_,hB9⟩⟩,by simp[intOf];omega⟩
     ·rw[show (l++[x]).length=l.length+1 by simp,show mw (l++[x])=mw l++[.int .u32 (x)] by simp[mw]]
      exact hown
     ·intro z hzz
      rcases List.mem_append.1 hzz with q | q
      ·exact P8.out.u z q
      ·rw[List.mem_singleton.1 q];exact HX.out
   have e5:(kk==67)=false:=by simpa using k5
   clear k5
   go_wp2_with fail
   refine (kWordX _ _ _ _ _ _).mono ?_
   rintro e w8 ⟨x,hx,rfl,b8⟩
   have HX:Hid (U32 x):=hx
   have P8:Hid (z3s w (.slice sb l.length cp) l w8):=(P6.out).on b8
   obtain⟨q0,q1,q2,q3⟩:=HB.out _ P8.out.below
   clear b8 P6 I6 hx
   by_cases h250:250≤c0
   ·have d5:decide ((250:Int)≤c0)=true:=decide_eq_true h250
    have d6:decide (c0 ≥ (250:Int))=true:=decide_eq_true h250
    go_wp2_with fail
    go_quiet (fail)
    have P9:Hid (z3s w (.slice sb l.length cp) l (w8.drewN nq)):=P8.out.on (z0u w8.heap.size w8 nq)
    generalize w8.drewN nq=W9 at *
    have HN:Hid (∀ q u,[Value.int .u32 (bits .or .u32 (c1%4294967296*16777216%4294967296) (c2%4294967296*8%4294967296))][q]?=some u→(W9.alloc (.cells #[.int .u32 (bits .or .u32 (c1%4294967296*16777216%4294967296) (c2%4294967296*8%4294967296))] 28)).cell? ((⟨W9.heap.size,0,none⟩:Addr).add q)=some u):=fun q u hqu=>by
     have hq0:q=0:=by
      have:=(List.getElem?_eq_some_iff.1 hqu).1
      simpa using this
     subst hq0
     rw[Addr.add_mid]
     refine (z0a (z0g W9 _)).1 _ _ ?_
     simpa using hqu
    have hsz:w.heap.size≤W9.heap.size:=P9.out.below.size
    go_wp2_with (first | (refine wpList_append_lies _ rfl (.tmp 142) (.tmp 144) 23 rfl w.heap.size 28 ii _ 1 4 Tryz.underlying23 hi0 hz0 hz1 hz2 rfl Nat.one_pos _ l.length (mw l) rfl (World.ownsRow.alloc P9.out.own _) ⟨W9.heap.size,0,none⟩ 1 1 [.int .u32 (bits .or .u32 (c1%4294967296*16777216%4294967296) (c2%4294967296*8%4294967296))] rfl rfl HN.out (by simp[Value.oneCell']) Nat.one_pos NU.out.m1 NU.out.m2 (by rw[World.size_alloc];exact Nat.le_succ_of_le hsz) _ rfl ?_;intro gg cq w9 hown hgrow hat hlt))
    have hB9:Below w.heap.size w w9:=(P9.out.below.alloc P9.out.below.size _).grown hgrow (by rw[World.size_alloc];exact Nat.le_succ_of_le hsz) (fun k e=>(z3k P9.out.own k e).1)
    refine⟨⟨l++[bits .or .u32 (c1%4294967296*16777216%4294967296) (c2%4294967296*8%4294967296)],some ⟨gg,0,none⟩,cq,j+4,by rw[List.length_append];exact NU.out.m3,by rw[List.length_append];rfl,by rw[List.length_append];exact NU.out.m4,by go_num,⟨?_,?_,hB9⟩⟩,by simp[intOf];omega⟩
    ·rw[show (l++[bits .or .u32 (c1%4294967296*16777216%4294967296) (c2%4294967296*8%4294967296)]).length=l.length+1 by simp,show mw (l++[bits .or .u32 (c1%4294967296*16777216%4294967296) (c2%4294967296*8%4294967296)])=mw l++[.int .u32 (bits .or .u32 (c1%4294967296*16777216%4294967296) (c2%4294967296*8%4294967296))] by simp[mw]]
     exact hown
    ·intro z hzz
     rcases List.mem_append.1 hzz with q | q
     ·exact P9.out.u z q
     ·rw[List.mem_singleton.1 q];exact z1t _ _ _
   ·have d5:decide ((250:Int)≤c0)=false:=decide_eq_false h250
    have d6:decide (c0 ≥ (250:Int))=false:=decide_eq_false h250
    have HN:Hid (∀ q u,[Value.int .u32 (x)][q]?=some u→(w8.alloc (.cells #[.int .u32 (x)] 28)).cell? ((⟨w8.heap.size,0,none⟩:Addr).add q)=some u):=fun q u hqu=>by
     have hq0:q=0:=by
      have:=(List.getElem?_eq_some_iff.1 hqu).1
      simpa using this
     subst hq0
     rw[Addr.add_mid]
     refine (z0a (z0g w8 _)).1 _ _ ?_
     simpa using hqu
    have hsz:w.heap.size≤w8.heap.size:=P8.out.below.size
    go_wp2_with (first | (refine wpList_append_lies _ rfl (.tmp 142) (.tmp 144) 23 rfl w.heap.size 28 ii _ 1 4 Tryz.underlying23 hi0 hz0 hz1 hz2 rfl Nat.one_pos _ l.length (mw l) rfl (World.ownsRow.alloc P8.out.own _) ⟨w8.heap.size,0,none⟩ 1 1 [.int .u32 (x)] rfl rfl HN.out (by simp[Value.oneCell']) Nat.one_pos NU.out.m1 NU.out.m2 (by rw[World.size_alloc];exact Nat.le_succ_of_le hsz) _ rfl ?_;intro gg cq w9 hown hgrow hat hlt))
    have hB9:Below w.heap.size w w9:=(P8.out.below.alloc P8.out.below.size _).grown hgrow (by rw[World.size_alloc];exact Nat.le_succ_of_le hsz) (fun k e=>(z3k P8.out.own k e).1)
    refine⟨⟨l++[x],some ⟨gg,0,none⟩,cq,j+4,by rw[List.length_append];exact NU.out.m3,by rw[List.length_append];rfl,by rw[List.length_append];exact NU.out.m4,by go_num,⟨?_,?_,hB9⟩⟩,by simp[intOf];omega⟩
    ·rw[show (l++[x]).length=l.length+1 by simp,show mw (l++[x])=mw l++[.int .u32 (x)] by simp[mw]]
     exact hown
    ·intro z hzz
     rcases List.mem_append.1 hzz with q | q
     ·exact P8.out.u z q
     ·rw[List.mem_singleton.1 q];exact HX.out
  ·have hd:(decide ((j:Int)+3<(n:Int))=false)∨(decide ((j:Int)+3<(n:Int))=true∧decide ((l.length:Int)<60)=false):=by
    by_cases h1:j+3<n
    ·exact Or.inr ⟨decide_eq_true (by omega),decide_eq_false (by omega)⟩
    ·exact Or.inl (decide_eq_false (by omega))
   have w3:=w64_3 hj240
   have HQ:Hid _:=hq
   clear hgo hq hj240 hm
   rcases hd with d1 | ⟨d1,d2⟩
   all_goals
    go_wp2_with fail
    try rw[w3]
    clear w3
    go_loopw [3] (fun v wr=>∃ (l:List Int) (sb:Option Addr) (cp:Nat),l.length≤80∧v=.slice sb l.length cp∧Hid (z3s w (.slice sb l.length cp) l wr)) (fun v _=>80-lenOf v)
    case atStart=>exact⟨l,sb,cp,Nat.le_trans HQ.out (by decide),rfl,hr.out⟩
    case round=>
     clear hr HQ
     clear d1
     try clear d2
     obtain⟨k,sk,ck,hk,rfl,hr⟩:=hrel
     by_cases h80:k.length<80
     ·have M80:Hid (k.length+1≤maxLen∧(k.length+1)*4≤140737488355328∧k.length+1≤80∧80-(k.length+1)<80-k.length):=⟨by unfold maxLen;omega,by omega,by omega,by omega⟩
      have d8:decide ((k.length:Int)<80)=true:=decide_eq_true (by omega)
      clear hk h80
      have HN:Hid (∀ q u,[Value.int .u32 ((k.length:Int)%4294967296*16843009%4294967296)][q]?=some u→(wr.alloc (.cells #[.int .u32 ((k.length:Int)%4294967296*16843009%4294967296)] 28)).cell? ((⟨wr.heap.size,0,none⟩:Addr).add q)=some u):=fun q u hqu=>by
       have hq0:q=0:=by
        have:=(List.getElem?_eq_some_iff.1 hqu).1
        simpa using this
       subst hq0
       rw[Addr.add_mid]
       refine (z0a (z0g wr _)).1 _ _ ?_
       simpa using hqu
      have hsz:w.heap.size≤wr.heap.size:=hr.out.below.size
      go_wp2_with (first | (refine wpList_append_lies _ rfl (.tmp 149) (.tmp 154) 23 rfl w.heap.size 28 ii _ 1 4 Tryz.underlying23 hi0 hz0 hz1 hz2 rfl Nat.one_pos _ k.length (mw k) rfl (World.ownsRow.alloc hr.out.own _) ⟨wr.heap.size,0,none⟩ 1 1 [.int .u32 ((k.length:Int)%4294967296*16843009%4294967296)] rfl rfl HN.out (by simp[Value.oneCell']) Nat.one_pos M80.out.1 M80.out.2.1 (by rw[World.size_alloc];exact Nat.le_succ_of_le hsz) _ rfl ?_;intro gg cq w9 hown hgrow hat hlt))
      have hB9:Below w.heap.size w w9:=(hr.out.below.alloc hr.out.below.size _).grown hgrow (by rw[World.size_alloc];exact Nat.le_succ_of_le hsz) (fun k e=>(z3k hr.out.own k e).1)
      refine⟨⟨k++[(k.length:Int)%4294967296*16843009%4294967296],some ⟨gg,0,none⟩,cq,by rw[List.length_append];exact M80.out.2.2.1,by rw[List.length_append];rfl,⟨?_,?_,hB9⟩⟩,M80.out.2.2.2⟩
      ·rw[show (k++[(k.length:Int)%4294967296*16843009%4294967296]).length=k.length+1 by simp,show mw (k++[(k.length:Int)%4294967296*16843009%4294967296])=mw k++[.int .u32 ((k.length:Int)%4294967296*16843009%4294967296)] by simp[mw]]
       exact hown
      ·intro z hzz
       rcases List.mem_append.1 hzz with q | q
       ·exact hr.out.u z q
       ·rw[List.mem_singleton.1 q];exact z6r _
     ·have h8:k.length=80:=by omega
      have d8:decide ((k.length:Int)<80)=false:=decide_eq_false (by omega)
      clear hk h80
      go_wp2
      go_ret
      rw[← h8]
      exact⟨sk,ck,k,rfl,rfl,hr.out⟩
end Go.Proofs.YtbmnmbkgdalkcaaGreatDoor
