/-
  Contracts of functions that the statement reaches, and what they are made of, callees first.
-/
import Derived.BigQuiet
import Derived.Test.YtilcoimelnpkeaaGreatDoorPza
import Derived.Test.YtilcoimelnpkeaaGreatDoorPzb
set_option maxRecDepth 100000
set_option maxHeartbeats 8000000
namespace Go.Proofs.YtilcoimelnpkeaaGreatDoor
open Go.RowKit
theorem nbits (x lo n:Int) (hx:U32 x) (c1:0≤lo) (c2:lo<32) (c3:1≤n) (c4:n≤32-lo) (w:World) :
  Calls Tryz.prog 50 #[.int .u32 x,.int .i64 lo,.int .i64 n] w fun e w'=>e=.returned (.int .u32 (z0j x lo n))∧w'=w:=by
 obtain⟨h0,h1⟩:=hx
 go_enter Tryz.func50,Tryz.ntmps50
 go_wp2
 go_ret
 exact⟨z6o (by unfold z0j;rw[if_neg (by omega)]),rfl⟩
def MaskAt (lo n m:Int):Prop:=∀ w:World,Calls Tryz.prog 66 #[.int .i64 lo,.int .i64 n] w fun e w'=>e=.returned (.int .u32 m)∧w'=w
theorem mask_3_1:MaskAt 3 1 8:=by
 intro w
 go_enter Tryz.func66,Tryz.ntmps66
 go_wp2
 go_ret
 exact⟨rfl,rfl⟩
theorem mask_7_1:MaskAt 7 1 128:=by
 intro w
 go_enter Tryz.func66,Tryz.ntmps66
 go_wp2
 go_ret
 exact⟨rfl,rfl⟩
theorem mask_11_2:MaskAt 11 2 6144:=by
 intro w
 go_enter Tryz.func66,Tryz.ntmps66
 go_wp2
 go_ret
 exact⟨rfl,rfl⟩
theorem mask_0_2:MaskAt 0 2 3:=by
 intro w
 go_enter Tryz.func66,Tryz.ntmps66
 go_wp2
 go_ret
 exact⟨rfl,rfl⟩
def PutAt (lo n m p:Int):Prop:=∀ (x v:Int) (w:World),Calls Tryz.prog 51 #[.int .u32 x,.int .i64 lo,.int .i64 n,.int .u32 v] w fun e w'=>e=.returned (.int .u32 (bits .or .u32 (bits .andNot .u32 x m) (v*p%4294967296)))∧∃ m,w'=w.drewN m
theorem put_3_1:PutAt 3 1 8 8:=by
 intro x v w
 have C:Hid _:=mask_3_1
 go_enter Tryz.func51,Tryz.ntmps51
 go_wp2_with fail
 go_quiet (first | (go_at_call 66;exact Calls.quiet_of_same (C.out _)))
 go_wp2
 go_ret
 exact⟨rfl,_,rfl⟩
theorem put_7_1:PutAt 7 1 128 128:=by
 intro x v w
 have C:Hid _:=mask_7_1
 go_enter Tryz.func51,Tryz.ntmps51
 go_wp2_with fail
 go_quiet (first | (go_at_call 66;exact Calls.quiet_of_same (C.out _)))
 go_wp2
 go_ret
 exact⟨rfl,_,rfl⟩
theorem put_11_2:PutAt 11 2 6144 2048:=by
 intro x v w
 have C:Hid _:=mask_11_2
 go_enter Tryz.func51,Tryz.ntmps51
 go_wp2_with fail
 go_quiet (first | (go_at_call 66;exact Calls.quiet_of_same (C.out _)))
 go_wp2
 go_ret
 exact⟨rfl,_,rfl⟩
theorem bvo (X Y:BitVec 32):bits .or .u32 (X.toNat:Int) (Y.toNat:Int)=((X ||| Y).toNat:Int):=by rw[u32_or_nat _ _ X.isLt Y.isLt,BitVec.toNat_or]
theorem bva (X Y:BitVec 32):bits .and .u32 (X.toNat:Int) (Y.toNat:Int)=((X &&& Y).toNat:Int):=by rw[u32_and_nat _ _ X.isLt Y.isLt,BitVec.toNat_and]
theorem bvn (X Y:BitVec 32):bits .andNot .u32 (X.toNat:Int) (Y.toNat:Int)=((X &&& ~~~Y).toNat:Int):=by
 rw[u32_andNot_nat _ _ X.isLt Y.isLt,BitVec.toNat_and,BitVec.toNat_not]
theorem bvx {x:Int} (h:U32 x):x=((BitVec.ofNat 32 x.toNat).toNat:Int):=by
 obtain⟨h0,h1⟩:=h
 rw[BitVec.toNat_ofNat,Nat.mod_eq_of_lt (by omega)]
 omega
theorem bv_trap (X:BitVec 32) (p q:Bool):((((X &&& ~~~128#32) ||| (if p then 128#32 else 0#32)) &&& ~~~8#32 ||| 0#32) &&& ~~~6144#32 ||| (if q then 6144#32 else 0#32))=(if q then (if p then (X &&& ~~~6280#32) ||| 128#32 else X &&& ~~~6280#32) ||| 6144#32 else (if p then (X &&& ~~~6280#32) ||| 128#32 else X &&& ~~~6280#32)):=by
 apply BitVec.eq_of_getLsbD_eq
 intro i hi
 cases p <;> cases q <;> simp only[Bool.false_eq_true,if_false,if_true,BitVec.getLsbD_or,BitVec.getLsbD_and,BitVec.getLsbD_not] <;> generalize X.getLsbD i=t <;> revert t <;> revert i <;> decide +kernel
theorem bv_ret (X:BitVec 32) (p:Bool):((((X &&& ~~~8#32) ||| (if p then 8#32 else 0#32)) &&& ~~~128#32 ||| 128#32) &&& ~~~6144#32 ||| 0#32)=(if p then ((X &&& ~~~6152#32) ||| 128#32) ||| 8#32 else (X &&& ~~~6152#32) ||| 128#32):=by
 apply BitVec.eq_of_getLsbD_eq
 intro i hi
 cases p <;> simp only[Bool.false_eq_true,if_false,if_true,BitVec.getLsbD_or,BitVec.getLsbD_and,BitVec.getLsbD_not] <;> generalize X.getLsbD i=t <;> revert t <;> revert i <;> decide +kernel
theorem bv_stat (X:BitVec 32):(((X &&& 136#32) &&& ~~~6144#32) ||| 6144#32)=(X &&& 136#32) ||| 6144#32:=by
 apply BitVec.eq_of_getLsbD_eq
 intro i hi
 simp only[BitVec.getLsbD_or,BitVec.getLsbD_and,BitVec.getLsbD_not]
 generalize X.getLsbD i=t
 revert t
 revert i
 decide +kernel
theorem c8:((8#32).toNat:Int)=8:=rfl
theorem c128:((128#32).toNat:Int)=128:=rfl
theorem c136:((136#32).toNat:Int)=136:=rfl
theorem c0:((0#32).toNat:Int)=0:=rfl
theorem c6144:((6144#32).toNat:Int)=6144:=rfl
theorem c6280:((6280#32).toNat:Int)=6280:=rfl
theorem c6152:((6152#32).toNat:Int)=6152:=rfl
theorem bit_two {x:Int} (hx:U32 x) (l:Nat) (hl:l<32):z0j x l 1=0∨z0j x l 1=1:=by
 have h:=z0t hx l 1 hl (by decide) (by omega)
 rw[show ((1:Nat):Int)=1 from rfl] at h
 rw[h,Int.pow_one]
 omega
theorem trap_form {s:Int} (hs:U32 s) (u:Bool):bits .or .u32 (bits .andNot .u32 (bits .or .u32 (bits .andNot .u32 (bits .or .u32 (bits .andNot .u32 s 128) (z0j s 3 1*128%4294967296)) 8) 0) 6144) ((if u then 0 else 3)*2048%4294967296)=z9m s u:=by
 have h3:=bit_two hs 3 (by decide)
 rw[show ((3:Nat):Int)=3 from rfl] at h3
 unfold z9m
 generalize z0j s 3 1=y at *
 rw[bvx hs]
 generalize BitVec.ofNat 32 s.toNat=X
 have e:∀ p q:Bool,_:=fun p q=>congrArg (fun v:BitVec 32=>(v.toNat:Int)) (bv_trap X p q)
 rcases h3 with rfl | rfl <;> cases u
 ·have e1:=e false true
  simp only[Bool.false_eq_true,if_false,if_true,← bvo,← bvn,c8,c128,c0,c6144,c6280] at e1
  simpa using e1
 ·have e1:=e false false
  simp only[Bool.false_eq_true,if_false,← bvo,← bvn,c8,c128,c0,c6144,c6280] at e1
  simpa using e1
 ·have e1:=e true true
  simp only[if_true,← bvo,← bvn,c8,c128,c0,c6144,c6280] at e1
  simpa using e1
 ·have e1:=e true false
  simp only[Bool.false_eq_true,if_false,if_true,← bvo,← bvn,c8,c128,c0,c6144,c6280] at e1
  simpa using e1
theorem ret_form {s:Int} (hs:U32 s):bits .or .u32 (bits .andNot .u32 (bits .or .u32 (bits .andNot .u32 (bits .or .u32 (bits .andNot .u32 s 8) (z0j s 7 1*8%4294967296)) 128) 128) 6144) 0=retS s:=by
 have h3:=bit_two hs 7 (by decide)
 rw[show ((7:Nat):Int)=7 from rfl] at h3
 unfold retS
 generalize z0j s 7 1=y at *
 rw[bvx hs]
 generalize BitVec.ofNat 32 s.toNat=X
 have e:∀ p:Bool,_:=fun p=>congrArg (fun v:BitVec 32=>(v.toNat:Int)) (bv_ret X p)
 rcases h3 with rfl | rfl
 ·have e1:=e false
  simp only[Bool.false_eq_true,if_false,← bvo,← bvn,c8,c128,c0,c6144,c6152] at e1
  simpa using e1
 ·have e1:=e true
  simp only[if_true,← bvo,← bvn,c8,c128,c0,c6144,c6152] at e1
  simpa using e1
theorem stat_form {x:Int} (hx:U32 x) (h:z0j x 11 2=3):bits .or .u32 (bits .andNot .u32 (bits .and .u32 x 136) 6144) 6144=statV x:=by
 unfold statV
 rw[if_pos h]
 clear h
 rw[bvx hx]
 generalize BitVec.ofNat 32 x.toNat=X
 have e1:=congrArg (fun v:BitVec 32=>(v.toNat:Int)) (bv_stat X)
 simp only[← bvo,← bvn] at e1
 simp only[← bva,c136,c6144] at e1
 exact e1
theorem z3d {w w':World} (h:∃ m,w'=w.drewN m):Below w.heap.size w w':=by
 obtain⟨m,rfl⟩:=h
 exact⟨rfl,rfl,rfl,Nat.le_refl _,fun _ _=>rfl⟩
theorem nheldByStatus (x:Int) (hx:U32 x) (w:World):Calls Tryz.prog 116 #[.int .u32 x] w fun e w'=>e=.returned (.int .u32 (statV x))∧Below w.heap.size w w':=by
 have C1:Hid _:=mask_3_1
 have C2:Hid _:=mask_7_1
 have C3:Hid _:=nbits x 11 2 hx (by decide) (by decide) (by decide) (by decide)
 have C4:Hid _:=put_11_2
 have HS:Hid _:=fun h=>stat_form hx h
 have HN:Hid (¬z0j x 11 2=3→statV x=bits .and .u32 x 136):=fun h=>by unfold statV;rw[if_neg h]
 clear hx
 generalize hy:z0j x 11 2=y at *
 have H8:bits .or .u32 8 128=136:=by decide +kernel
 by_cases h:y=3
 ·have e:=HS.out h
  have hb:(y==3)=true:=by simpa using h
  clear HS HN hy h
  go_enter Tryz.func116,Tryz.ntmps116
  go_wp2_with fail
  refine (C1.out _).mono ?_
  rintro e1 w1 ⟨rfl,rfl⟩
  go_wp2_with fail
  refine (C2.out _).mono ?_
  rintro e1 w1 ⟨rfl,rfl⟩
  go_wp2_with fail
  refine (C3.out _).mono ?_
  rintro e1 w1 ⟨rfl,rfl⟩
  go_wp2_with fail
  refine (C4.out _ _ _).mono ?_
  rintro e1 w1 ⟨rfl,hw⟩
  have hb1:=z3d hw
  go_wp2
  go_ret
  exact⟨rfl,hb1⟩
 ·have e:=HN.out h
  have hb:(y==3)=false:=by simpa using h
  clear HS HN hy h
  go_enter Tryz.func116,Tryz.ntmps116
  go_wp2_with fail
  refine (C1.out _).mono ?_
  rintro e1 w1 ⟨rfl,rfl⟩
  go_wp2_with fail
  refine (C2.out _).mono ?_
  rintro e1 w1 ⟨rfl,rfl⟩
  go_wp2_with fail
  refine (C3.out _).mono ?_
  rintro e1 w1 ⟨rfl,rfl⟩
  go_wp2
  go_ret
  exact⟨z6o e.symm,Below.refl _ _⟩
theorem three_form {x:Int} (h:U32 x):bits .andNot .u32 x 3=x/4*4:=by
 obtain⟨X,rfl⟩:=Int.eq_ofNat_of_zero_le h.1
 have h1:X<4294967296:=by have:=h.2;omega
 have:=u32_andNot_nat X 3 h1 (by decide)
 rw[show ((3:Nat):Int)=3 by rfl,show (4294967295-3:Nat)=4294967292 by rfl,nat_hi32_2] at this
 rw[this]
 omega
theorem nheld (n x:Int) (hx:U32 x) (w:World):Calls Tryz.prog 103 #[.int .i64 n,.int .u32 x] w fun e w'=>e=.returned (.int .u32 (z7t n x))∧Below w.heap.size w w':=by
 have C1:Hid _:=mask_7_1
 have C2:Hid _:=mask_0_2
 have C3:Hid _:=nheldByStatus x hx
 have H3:Hid _:=three_form hx
 clear hx
 by_cases h1:n=768
 ·subst h1
  rw[show z7t 768 x=statV x from rfl]
  generalize statV x=y at *
  go_enter Tryz.func103,Tryz.ntmps103
  go_wp2_with fail
  refine (C3.out _).mono ?_
  rintro e1 w1 ⟨rfl,hb⟩
  go_wp2
  go_ret
  exact⟨rfl,hb⟩
 by_cases h2:n=772
 ·subst h2
  rw[show z7t 772 x=bits .and .u32 x 128 from rfl]
  go_enter Tryz.func103,Tryz.ntmps103
  go_wp2_with fail
  refine (C1.out _).mono ?_
  rintro e1 w1 ⟨rfl,rfl⟩
  go_wp2
  go_ret
  exact⟨rfl,Below.refl _ _⟩
 by_cases h3:n=773
 ·subst h3
  rw[show z7t 773 x=x/4*4 from rfl,← H3.out]
  go_enter Tryz.func103,Tryz.ntmps103
  go_wp2_with fail
  refine (C2.out _).mono ?_
  rintro e1 w1 ⟨rfl,rfl⟩
  go_wp2
  go_ret
  exact⟨rfl,Below.refl _ _⟩
 by_cases h4:n=833
 ·subst h4
  rw[show z7t 833 x=x/4*4 from rfl,← H3.out]
  go_enter Tryz.func103,Tryz.ntmps103
  go_wp2_with fail
  refine (C2.out _).mono ?_
  rintro e1 w1 ⟨rfl,rfl⟩
  go_wp2
  go_ret
  exact⟨rfl,Below.refl _ _⟩
 have e:z7t n x=x:=by unfold z7t;rw[if_neg h1,if_neg h2,if_neg (by omega)]
 rw[e]
 go_enter Tryz.func103,Tryz.ntmps103
 go_wp2
 go_ret
 exact⟨rfl,Below.refl _ _⟩
theorem nTrap_true (f:Nat→Int) (c v:Int) (hu:∀ i,U32 (f i)) (w:World) :
  Calls Tryz.prog 40 #[.agg (z0c f true),.int .u32 c,.int .u32 v] w fun e w'=>e=.returned (.agg (z0c (z5i f true c v) false))∧Below w.heap.size w w':=by
 have C3:Hid _:=nbits (f 34) 3 1 (hu 34) (by decide) (by decide) (by decide) (by decide)
 have P7:Hid _:=put_7_1
 have P3:Hid _:=put_3_1
 have P11:Hid _:=put_11_2
 have HT:Hid _:=trap_form (hu 34) true
 clear hu
 generalize z0j (f 34) 3 1=y3 at *
 have hbox:=z3r f true
 obtain⟨fs,hfs⟩:=z3f
 have HS:Hid _:=hfs
 clear hfs
 have HB0:((w.alloc (.cells (z0c f true) 37)).alloc (.cells (z0c (fun _=>0) false) 37)).heap[w.heap.size]?=some (.cells (z0c f true) 37):=z0m ((Below.refl _ _).alloc (Nat.le_refl _) _)
 have HZ0:((w.alloc (.cells (z0c f true) 37)).alloc (.cells (z0c (fun _=>0) false) 37)).heap[w.heap.size+1]?=some (.cells (z0c (fun _=>0) false) 37):=by have:=z0g (w.alloc (.cells (z0c f true) 37)) (.cells (z0c (fun _=>0) false) 37);rwa [World.size_alloc] at this
 have HL0:Below w.heap.size w ((w.alloc (.cells (z0c f true) 37)).alloc (.cells (z0c (fun _=>0) false) 37)):=box2
 have z57:=z8d
 go_enter Tryz.func40,Tryz.ntmps40
 go_wp2_with (first | (refine z1h rfl rfl rfl (by assumption) ?_))
 generalize (w.alloc (.cells (z0c f true) 37)).alloc (.cells (z0c (fun _=>0) false) 37)=V at *
 have c34:V.cell? ⟨w.heap.size,34,none⟩=some (.int .u32 (f 34)):=(z0a HB0).1 34 _ (z2d f true 34 (by decide))
 go_quiet (first | (go_at_call 50;exact Calls.quiet_of_same (C3.out _)) | (go_at_call 51;exact Calls.quiet_of (P7.out _ _ _)))
 have b1:=z3d (w:=V) ⟨nq,rfl⟩
 have HB1:=z0f HB0 b1
 have HZ1:=z0f HZ0 b1
 have HL1:=z0e HL0 b1
 clear HB0 HZ0 HL0 b1
 generalize V.drewN nq=V1 at *
 clear c34
 go_wp2_with fail
 refine (P3.out _ _ _).mono ?_
 rintro e V2 ⟨rfl,b2⟩
 replace b2:=z3d b2
 have HB2:=z0f HB1 b2
 have HZ2:=z0f HZ1 b2
 have HL2:=z0e HL1 b2
 clear HB1 HZ1 HL1 b2
 go_wp2_with fail
 refine (P11.out _ _ _).mono ?_
 rintro e V3 ⟨rfl,b3⟩
 replace b3:=z3d b3
 have HB3:=z0f HB2 b3
 have HZ3:=z0f HZ2 b3
 have HL3:=z0e HL2 b3
 clear HB2 HZ2 HL2 b3
 have HE:bits .or .u32 (bits .andNot .u32 (bits .or .u32 (bits .andNot .u32 (bits .or .u32 (bits .andNot .u32 (f 34) 128) (y3*128%4294967296)) 8) 0) 6144) (0*2048%4294967296)=z9m (f 34) true:=HT.out
 rw[HE]
 clear HE
 go_wp2_with (first | (refine z0k rfl rfl rfl (by assumption) (by decide) (by decide) ?_) | (refine z0h rfl rfl rfl rfl (by assumption) (by decide) (by decide) ?_;intro wn HBn HO HL;have HZn:=Eq.trans (HO (w.heap.size+1) (by omega)) (by assumption);have HLn:=HL w.heap.size w (Nat.le_refl _) (by assumption);clear HO HL) | (refine z0z rfl rfl rfl rfl (by assumption) ?_;intro wn HBn HO HL;have HZn:=Eq.trans (HO (w.heap.size+1) (by omega)) (by assumption);have HLn:=HL w.heap.size w (Nat.le_refl _) (by assumption);clear HO HL) | (refine wpList_load_row rfl 37 (.tmp 3) rfl _ rfl _ _ _ _ (by assumption) HS.out rfl (by rw[z0b];exact z0o) ?_) | (refine wpList_store_row rfl 37 (.tmp 6) (.tmp 34) rfl _ (z0c _ _) rfl rfl _ _ (by assumption) (by rw[z0b];exact z0o) (by rw[z0b];rfl) (z0s _ _) ?_))
 refine bodyPost_ret (results_cell_row rfl _ _ _ _ _ _ _ rfl (setRow_heap _ _ _ _ _ _ (by assumption)) HS.out rfl (by rw[z0b];exact z0o)) rfl ⟨ret57 (fun i _ _=>?_) rfl,below_setRow (by assumption) (Nat.le_succ _) _⟩
 unfold z5i
 by_cases a1:i=32
 ·subst a1;simp[set1]
 ·by_cases a2:i=34
  ·subst a2;simp[set1]
  ·by_cases a3:i=38
   ·subst a3;simp[set1]
   ·by_cases a4:i=39
    ·subst a4;simp[set1]
    ·by_cases a5:i=40
     ·subst a5;simp[set1]
     ·simp[set1,a1,a2,a3,a4,a5]
theorem nTrap_false (f:Nat→Int) (c v:Int) (hu:∀ i,U32 (f i)) (w:World) :
  Calls Tryz.prog 40 #[.agg (z0c f false),.int .u32 c,.int .u32 v] w fun e w'=>e=.returned (.agg (z0c (z5i f false c v) false))∧Below w.heap.size w w':=by
 have C3:Hid _:=nbits (f 34) 3 1 (hu 34) (by decide) (by decide) (by decide) (by decide)
 have P7:Hid _:=put_7_1
 have P3:Hid _:=put_3_1
 have P11:Hid _:=put_11_2
 have HT:Hid _:=trap_form (hu 34) false
 clear hu
 generalize z0j (f 34) 3 1=y3 at *
 have hbox:=z3r f false
 obtain⟨fs,hfs⟩:=z3f
 have HS:Hid _:=hfs
 clear hfs
 have HB0:((w.alloc (.cells (z0c f false) 37)).alloc (.cells (z0c (fun _=>0) false) 37)).heap[w.heap.size]?=some (.cells (z0c f false) 37):=z0m ((Below.refl _ _).alloc (Nat.le_refl _) _)
 have HZ0:((w.alloc (.cells (z0c f false) 37)).alloc (.cells (z0c (fun _=>0) false) 37)).heap[w.heap.size+1]?=some (.cells (z0c (fun _=>0) false) 37):=by have:=z0g (w.alloc (.cells (z0c f false) 37)) (.cells (z0c (fun _=>0) false) 37);rwa [World.size_alloc] at this
 have HL0:Below w.heap.size w ((w.alloc (.cells (z0c f false) 37)).alloc (.cells (z0c (fun _=>0) false) 37)):=box2
 have z57:=z8d
 go_enter Tryz.func40,Tryz.ntmps40
 go_wp2_with (first | (refine z1h rfl rfl rfl (by assumption) ?_))
 generalize (w.alloc (.cells (z0c f false) 37)).alloc (.cells (z0c (fun _=>0) false) 37)=V at *
 have c34:V.cell? ⟨w.heap.size,34,none⟩=some (.int .u32 (f 34)):=(z0a HB0).1 34 _ (z2d f false 34 (by decide))
 go_quiet (first | (go_at_call 50;exact Calls.quiet_of_same (C3.out _)) | (go_at_call 51;exact Calls.quiet_of (P7.out _ _ _)))
 have b1:=z3d (w:=V) ⟨nq,rfl⟩
 have HB1:=z0f HB0 b1
 have HZ1:=z0f HZ0 b1
 have HL1:=z0e HL0 b1
 clear HB0 HZ0 HL0 b1
 generalize V.drewN nq=V1 at *
 clear c34
 go_wp2_with fail
 refine (P3.out _ _ _).mono ?_
 rintro e V2 ⟨rfl,b2⟩
 replace b2:=z3d b2
 have HB2:=z0f HB1 b2
 have HZ2:=z0f HZ1 b2
 have HL2:=z0e HL1 b2
 clear HB1 HZ1 HL1 b2
 go_wp2_with fail
 refine (P11.out _ _ _).mono ?_
 rintro e V3 ⟨rfl,b3⟩
 replace b3:=z3d b3
 have HB3:=z0f HB2 b3
 have HZ3:=z0f HZ2 b3
 have HL3:=z0e HL2 b3
 clear HB2 HZ2 HL2 b3
 have HE:bits .or .u32 (bits .andNot .u32 (bits .or .u32 (bits .andNot .u32 (bits .or .u32 (bits .andNot .u32 (f 34) 128) (y3*128%4294967296)) 8) 0) 6144) (3*2048%4294967296)=z9m (f 34) false:=HT.out
 rw[HE]
 clear HE
 go_wp2_with (first | (refine z0k rfl rfl rfl (by assumption) (by decide) (by decide) ?_) | (refine z0h rfl rfl rfl rfl (by assumption) (by decide) (by decide) ?_;intro wn HBn HO HL;have HZn:=Eq.trans (HO (w.heap.size+1) (by omega)) (by assumption);have HLn:=HL w.heap.size w (Nat.le_refl _) (by assumption);clear HO HL) | (refine z0z rfl rfl rfl rfl (by assumption) ?_;intro wn HBn HO HL;have HZn:=Eq.trans (HO (w.heap.size+1) (by omega)) (by assumption);have HLn:=HL w.heap.size w (Nat.le_refl _) (by assumption);clear HO HL) | (refine wpList_load_row rfl 37 (.tmp 3) rfl _ rfl _ _ _ _ (by assumption) HS.out rfl (by rw[z0b];exact z0o) ?_) | (refine wpList_store_row rfl 37 (.tmp 6) (.tmp 34) rfl _ (z0c _ _) rfl rfl _ _ (by assumption) (by rw[z0b];exact z0o) (by rw[z0b];rfl) (z0s _ _) ?_))
 refine bodyPost_ret (results_cell_row rfl _ _ _ _ _ _ _ rfl (setRow_heap _ _ _ _ _ _ (by assumption)) HS.out rfl (by rw[z0b];exact z0o)) rfl ⟨ret57 (fun i _ _=>?_) rfl,below_setRow (by assumption) (Nat.le_succ _) _⟩
 unfold z5i
 by_cases a1:i=32
 ·subst a1;simp[set1]
 ·by_cases a2:i=34
  ·subst a2;simp[set1]
  ·by_cases a3:i=38
   ·subst a3;simp[set1]
   ·by_cases a4:i=39
    ·subst a4;simp[set1]
    ·by_cases a5:i=40
     ·subst a5;simp[set1]
     ·simp[set1,a1,a2,a3,a4,a5]
theorem nTrap (f:Nat→Int) (u:Bool) (hu:∀ i,U32 (f i)) (c v:Int) (w:World) :
  Calls Tryz.prog 40 #[.agg (z0c f u),.int .u32 c,.int .u32 v] w fun e w'=>e=.returned (.agg (z0c (z5i f u c v) false))∧Below w.heap.size w w':=by
 cases u
 ·exact nTrap_false f c v hu w
 ·exact nTrap_true f c v hu w
theorem nRet (f:Nat→Int) (u:Bool) (hu:∀ i,U32 (f i)) (w:World) :
  Calls Tryz.prog 64 #[.agg (z0c f u)] w fun e w'=>e=.returned (.agg (z0c (retF f) (retU f)))∧Below w.heap.size w w':=by
 have C11:Hid _:=nbits (f 34) 11 1 (hu 34) (by decide) (by decide) (by decide) (by decide)
 have C7:Hid _:=nbits (f 34) 7 1 (hu 34) (by decide) (by decide) (by decide) (by decide)
 have P7:Hid _:=put_7_1
 have P3:Hid _:=put_3_1
 have P11:Hid _:=put_11_2
 have HT:Hid _:=ret_form (hu 34)
 have HR:Hid (retU f=(z0j (f 34) 11 1==0)):=rfl
 clear hu
 generalize z0j (f 34) 7 1=y7 at *
 generalize z0j (f 34) 11 1=y11 at *
 have hbox:=z3r f u
 obtain⟨fs,hfs⟩:=z3f
 have HS:Hid _:=hfs
 clear hfs
 have HB0:((w.alloc (.cells (z0c f u) 37)).alloc (.cells (z0c (fun _=>0) false) 37)).heap[w.heap.size]?=some (.cells (z0c f u) 37):=z0m ((Below.refl _ _).alloc (Nat.le_refl _) _)
 have HZ0:((w.alloc (.cells (z0c f u) 37)).alloc (.cells (z0c (fun _=>0) false) 37)).heap[w.heap.size+1]?=some (.cells (z0c (fun _=>0) false) 37):=by have:=z0g (w.alloc (.cells (z0c f u) 37)) (.cells (z0c (fun _=>0) false) 37);rwa [World.size_alloc] at this
 have HL0:Below w.heap.size w ((w.alloc (.cells (z0c f u) 37)).alloc (.cells (z0c (fun _=>0) false) 37)):=box2
 have z57:=z8d
 go_enter Tryz.func64,Tryz.ntmps64
 go_wp2_with (first | (refine z0k rfl rfl rfl (by assumption) (by decide) (by decide) ?_))
 refine (C11.out _).mono ?_
 rintro e wq ⟨rfl,rfl⟩
 go_wp2_with (first | (refine z0z rfl rfl rfl rfl (by assumption) ?_;intro wn HBn HO HL;have HZn:=Eq.trans (HO (w.heap.size+1) (by omega)) (by assumption);have HLn:=HL w.heap.size w (Nat.le_refl _) (by assumption);clear HO HL))
 clear HB0 HZ0 HL0
 have c34:wn.cell? ⟨w.heap.size,34,none⟩=some (.int .u32 (f 34)):=(z0a HBn).1 34 _ (z2d f _ 34 (by decide))
 go_quiet (first | (go_at_call 50;exact Calls.quiet_of_same (C7.out _)) | (go_at_call 51;exact Calls.quiet_of (P3.out _ _ _)))
 have b1:=z3d (w:=wn) ⟨nq,rfl⟩
 have HB1:=z0f HBn b1
 have HZ1:=z0f HZn b1
 have HL1:=z0e HLn b1
 clear HBn HZn HLn b1
 generalize wn.drewN nq=V1 at *
 clear c34
 go_wp2_with fail
 refine (P7.out _ _ _).mono ?_
 rintro e V2 ⟨rfl,b2⟩
 replace b2:=z3d b2
 have HB2:=z0f HB1 b2
 have HZ2:=z0f HZ1 b2
 have HL2:=z0e HL1 b2
 clear HB1 HZ1 HL1 b2
 go_wp2_with fail
 refine (P11.out _ _ _).mono ?_
 rintro e V3 ⟨rfl,b3⟩
 replace b3:=z3d b3
 have HB3:=z0f HB2 b3
 have HZ3:=z0f HZ2 b3
 have HL3:=z0e HL2 b3
 clear HB2 HZ2 HL2 b3
 rw[show (0*2048%4294967296:Int)=0 from rfl,HT.out]
 go_wp2_with (first | (refine z0k rfl rfl rfl (by assumption) (by decide) (by decide) ?_) | (refine z0h rfl rfl rfl rfl (by assumption) (by decide) (by decide) ?_;intro wn HBn HO HL;have HZn:=Eq.trans (HO (w.heap.size+1) (by omega)) (by assumption);have HLn:=HL w.heap.size w (Nat.le_refl _) (by assumption);clear HO HL) | (refine wpList_load_row rfl 37 (.tmp 1) rfl _ rfl _ _ _ _ (by assumption) HS.out rfl (by rw[z0b];exact z0o) ?_) | (refine wpList_store_row rfl 37 (.tmp 2) (.tmp 23) rfl _ (z0c _ _) rfl rfl _ _ (by assumption) (by rw[z0b];exact z0o) (by rw[z0b];rfl) (z0s _ _) ?_))
 refine bodyPost_ret (results_cell_row rfl _ _ _ _ _ _ _ rfl (setRow_heap _ _ _ _ _ _ (by assumption)) HS.out rfl (by rw[z0b];exact z0o)) rfl ⟨ret57 (fun i _ _=>?_) HR.out.symm,below_setRow (by assumption) (Nat.le_succ _) _⟩
 unfold retF
 by_cases a1:i=32
 ·subst a1;simp[set1]
 ·by_cases a2:i=34
  ·subst a2;simp[set1]
  ·simp[set1,a1,a2]
def regM (f:Nat→Int) (now:Int) (due:Bool) (n:Int):Option Int:=if z2b n=0 then some (z4e f n now due) else none
def baseM (f:Nat→Int) (c d:Int):Int→Option Int:=
 updM (updM (updM (updM (updM (updM (updM (updM (updM (fun _=>none) 768 (f 34)) 772 (f 35)) 773 (f 36)) 832 (f 37)) 833 (f 38)) 834 (f 39)) 835 (f 40)) 836 d) 3072 c
def rowM (f:Nat→Int) (B:Int→Option Int) (k:Nat) (n:Int):Option Int:=if 1984≤n∧n<1984+(k:Int) then some (f (41+(n-1984).toNat)) else B n
theorem rowM_zero (f:Nat→Int) (B:Int→Option Int) (n:Int):B n=rowM f B 0 n:=by unfold rowM;rw[if_neg (by omega)]
theorem rowM_next (f:Nat→Int) (B:Int→Option Int) (k:Nat) (n:Int):updM (rowM f B k) (1984+(k:Int)) (f (41+k)) n=rowM f B (k+1) n:=by
 unfold updM rowM
 by_cases h:n=1984+(k:Int)
 ·subst h
  rw[if_pos rfl,if_pos (by omega),show (1984+(k:Int)-1984).toNat=k by omega]
 ·rw[if_neg h]
  by_cases h2:1984≤n∧n<1984+(k:Int)
  ·rw[if_pos h2,if_pos (by omega)]
  ·rw[if_neg h2,if_neg (by omega)]
theorem updM_twice (M:Int→Option Int) (i x y z j c:Int) (h:i≠j):updM (updM (updM M i x) j c) i y z=updM (updM M i y) j c z:=by
 unfold updM
 by_cases h1:z=i
 ·subst h1;rw[if_pos rfl,if_neg h,if_pos rfl]
 ·rw[if_neg h1]
  by_cases h2:z=j
  ·rw[if_pos h2,if_pos h2]
  ·rw[if_neg h2,if_neg h2,if_neg h1,if_neg h1]
theorem rowM_all (f:Nat→Int) (now:Int) (due:Bool) (n:Int):rowM f (baseM f (now%4294967296) (if due then 128 else 0)) 16 n=regM f now due n:=by
 by_cases a8:1984≤n∧n<2000
 ·have e1:rowM f (baseM f (now%4294967296) (if due then 128 else 0)) 16 n=some (f (41+(n-1984).toNat)):=by unfold rowM;rw[if_pos (by omega)]
  have hc:z2f n=some (41+(n-1984).toNat):=by
   unfold z2f
   rw[if_neg (by omega),if_neg (by omega),if_neg (by omega),if_neg (by omega),if_neg (by omega),if_neg (by omega),if_neg (by omega),if_pos a8]
  have e2:z2b n=0:=by unfold z2b;rw[if_pos (Or.inr (Or.inr (by rw[hc];rfl)))]
  have e3:z4e f n now due=f (41+(n-1984).toNat):=by unfold z4e;rw[if_neg (by omega),if_neg (by omega),hc]
  rw[e1];unfold regM;rw[if_pos e2,e3]
 ·have e0:rowM f (baseM f (now%4294967296) (if due then 128 else 0)) 16 n=baseM f (now%4294967296) (if due then 128 else 0) n:=by unfold rowM;rw[if_neg (by omega)]
  rw[e0]
  clear e0
  by_cases h1:n=768
  ·subst h1;rfl
  by_cases h2:n=772
  ·subst h2;rfl
  by_cases h3:n=773
  ·subst h3;rfl
  by_cases h4:n=832
  ·subst h4;rfl
  by_cases h5:n=833
  ·subst h5;rfl
  by_cases h6:n=834
  ·subst h6;rfl
  by_cases h7:n=835
  ·subst h7;rfl
  by_cases h8:n=836
  ·subst h8;rfl
  by_cases h9:n=3072
  ·subst h9;rfl
  have hc:z2f n=none:=by
   unfold z2f
   rw[if_neg h1,if_neg h2,if_neg h3,if_neg h4,if_neg h5,if_neg h6,if_neg h7,if_neg a8]
  have e2:z2b n=2:=by unfold z2b;rw[if_neg (by rw[hc];simp[h8,h9])]
  unfold regM
  rw[e2]
  unfold baseM updM
  rw[if_neg h9,if_neg h8,if_neg h7,if_neg h6,if_neg h5,if_neg h4,if_neg h3,if_neg h2,if_neg h1]
  rfl
def z7n (f:Nat→Int) (i:Nat):Int:=f (41+i)
theorem r16_size (g:Nat→Int):(r16 g).size=16:=by simp[r16]
theorem nund16:Tryz.prog.underlying 35=some (.array 16 31):=by kernel_rfl
theorem ninfo16:(Tryz.prog.info? 35).map (·.size)=some 16:=by kernel_rfl
theorem z8r {w:World} {b:Nat} {f:Nat→Int} {u:Bool} {t:TypeId} (h:w.heap[b]?=some (.cells (z0c f u) t)):w.rangeAt b 41 (r16 (z7n f)).toList:=fun j v hv=>by
 refine (z0a h).1 _ _ ?_
 have hj:j<16:=by
  have:=(List.getElem?_eq_some_iff.1 hv).1
  simpa [r16] using this
 rw[Array.getElem?_toList,r16_at _ _ hj] at hv
 rw[← hv,z2d f u (41+j) (by omega)]
 unfold rv z7n
 rw[if_neg (by omega)]
theorem nindex (g:Nat→Int) (k:Nat) (h:k<16) (w:World):(Instr.index 35 (.agg (r16 g)) (.int .i64 (k:Int))).run Tryz.prog w=.ok (.int .u32 (g k)) w:=by
 have:k=0∨k=1∨k=2∨k=3∨k=4∨k=5∨k=6∨k=7∨k=8∨k=9∨k=10∨k=11∨k=12∨k=13∨k=14∨k=15:=by omega
 rcases this with rfl | rfl | rfl | rfl | rfl | rfl | rfl | rfl | rfl | rfl | rfl | rfl | rfl | rfl | rfl | rfl <;> (show _=_) <;> kernel_rfl
structure NRegSt (w:World) (f:Nat→Int) (B:Int→Option Int) (k:Nat) (wr:World):Prop where
 map:z5w wr (w.heap.size+1) (10+k) (rowM f B k)
 below:Below w.heap.size w wr
theorem nregisters_false (f:Nat→Int) (u:Bool) (hu:∀ i,U32 (f i)) (now:Int) (w:World):Calls Tryz.prog 102 #[.agg (z0c f u),.int .i64 now,.bool false] w fun e w'=>e=.returned (.map (some (w.heap.size+1)))∧Below w.heap.size w w'∧z5w w' (w.heap.size+1) 26 (regM f now false):=by
 have HU:Hid _:=hu
 clear hu
 have HC:Hid (U32 (now%4294967296)):=⟨Int.emod_nonneg _ (by decide),Int.emod_lt_of_pos _ (by decide)⟩
 have HR:Hid (∀ n,rowM f (baseM f (now%4294967296) 0) 16 n=regM f now false n):=rowM_all f now false
 have CM:Hid _:=mask_7_1
 have hbox:=z3r f u
 have hmade:=imade
 have HI:Hid _:=fun k h w=>nindex (z7n f) k h w
 have HM0:=mapIs_made (w.alloc (.cells (z0c f u) 37))
 rw[World.size_alloc] at HM0
 have HB0:((w.alloc (.cells (z0c f u) 37)).alloc (.map #[] 0)).heap[w.heap.size]?=some (.cells (z0c f u) 37):=z0m ((Below.refl _ _).alloc (Nat.le_refl _) _)
 have HL0:Below w.heap.size w ((w.alloc (.cells (z0c f u) 37)).alloc (.map #[] 0)):=box2
 go_enter Tryz.func102,Tryz.ntmps102
 go_wp2_with (first | (refine z0k rfl rfl rfl (by assumption) (by decide) (by decide) ?_) | (refine z5h rfl (Or.inr rfl) rfl rfl rfl (by assumption) ⟨by decide,by decide⟩ (by first | exact HU.out _ | exact⟨by decide,by decide⟩ | exact HC.out) (by decide) ?_;intro wn HMn HO HL;have HBn:=HO w.heap.size _ (by omega) (by assumption);have HLn:=HL w.heap.size w (by omega) (by assumption);clear HO HL) | (refine z0w (by rfl) 35 (.tmp 31) rfl _ 41 rfl (r16 (z7n f)) _ (z8r (by assumption)) nund16 rfl (by rw[r16_size];exact ninfo16) ?_))

 have R0:Hid (NRegSt w f (baseM f (now%4294967296) 0) 0 wn):=⟨z7l (mapIs_mono HMn (by decide)) (fun n=>by show _=_;exact rowM_zero f _ n),HLn⟩
 clear HMn HBn HLn HM0 HB0 HL0 hbox hmade CM HC
 generalize baseM f (now%4294967296) 0=B at *
 go_loopw [33] (fun i wr=>∃ k:Nat,k≤16∧i=.int .i64 k∧Hid (NRegSt w f B k wr)) (fun i _=>16-(intOf i).toNat)
 case atStart=>exact⟨0,Nat.zero_le _,rfl,R0.out⟩
 case round=>
  clear R0
  obtain⟨k,hk,rfl,hr⟩:=hrel
  by_cases hlt:k<16
  ·have hi:=fun w=>HI.out k hlt w
   have hw:wrap64 (1984+(k:Int))=1984+(k:Int):=z0y (by omega) (by omega)
   have HK:Hid (N64 (1984+(k:Int))):=⟨by omega,by omega⟩
   have HV:Hid (U32 (z7n f k)):=HU.out _
   have HN:Hid _:=fun n=>rowM_next f B k n
   have HG:Hid (z7n f k=f (41+k)):=rfl
   generalize z7n f k=gv at *
   go_wp2_with (first | (refine z5h rfl (Or.inl rfl) rfl rfl rfl hr.out.map HK.out HV.out (by unfold maxLen;omega) ?_;intro wn HMn HO HL;have HLn:=HL w.heap.size w (by omega) hr.out.below;clear HO HL))
   exact⟨⟨k+1,by omega,by go_num,z7l HMn (fun n=>by rw[HG.out];exact HN.out n),HLn⟩,by simp[intOf];omega⟩
  ·have hk16:k=16:=by omega
   subst hk16
   go_wp2
   go_ret
   exact⟨rfl,hr.out.below,z7l hr.out.map HR.out⟩
theorem nregisters_true (f:Nat→Int) (u:Bool) (hu:∀ i,U32 (f i)) (now:Int) (w:World):Calls Tryz.prog 102 #[.agg (z0c f u),.int .i64 now,.bool true] w fun e w'=>e=.returned (.map (some (w.heap.size+1)))∧Below w.heap.size w w'∧z5w w' (w.heap.size+1) 26 (regM f now true):=by
 have HU:Hid _:=hu
 clear hu
 have HC:Hid (U32 (now%4294967296)):=⟨Int.emod_nonneg _ (by decide),Int.emod_lt_of_pos _ (by decide)⟩
 have HR:Hid (∀ n,rowM f (baseM f (now%4294967296) 128) 16 n=regM f now true n):=rowM_all f now true
 have CM:Hid _:=mask_7_1
 have hbox:=z3r f u
 have hmade:=imade
 have HI:Hid _:=fun k h w=>nindex (z7n f) k h w
 have HM0:=mapIs_made (w.alloc (.cells (z0c f u) 37))
 rw[World.size_alloc] at HM0
 have HB0:((w.alloc (.cells (z0c f u) 37)).alloc (.map #[] 0)).heap[w.heap.size]?=some (.cells (z0c f u) 37):=z0m ((Below.refl _ _).alloc (Nat.le_refl _) _)
 have HL0:Below w.heap.size w ((w.alloc (.cells (z0c f u) 37)).alloc (.map #[] 0)):=box2
 go_enter Tryz.func102,Tryz.ntmps102
 go_wp2_with (first | (refine z0k rfl rfl rfl (by assumption) (by decide) (by decide) ?_) | (refine z5h rfl (Or.inr rfl) rfl rfl rfl (by assumption) ⟨by decide,by decide⟩ (by first | exact HU.out _ | exact⟨by decide,by decide⟩ | exact HC.out) (by decide) ?_;intro wn HMn HO HL;have HBn:=HO w.heap.size _ (by omega) (by assumption);have HLn:=HL w.heap.size w (by omega) (by assumption);clear HO HL) | (refine z0w (by rfl) 35 (.tmp 31) rfl _ 41 rfl (r16 (z7n f)) _ (z8r (by assumption)) nund16 rfl (by rw[r16_size];exact ninfo16) ?_))

 refine (CM.out _).mono ?_
 rintro e1 w1 ⟨rfl,rfl⟩
 go_wp2_with (first | (refine z5h rfl (Or.inl rfl) rfl rfl rfl (by assumption) ⟨by decide,by decide⟩ (by first | exact HU.out _ | exact⟨by decide,by decide⟩ | exact HC.out) (by decide) ?_;intro wn HMn HO HL;have HBn:=HO w.heap.size _ (by omega) (by assumption);have HLn:=HL w.heap.size w (by omega) (by assumption);clear HO HL) | (refine z0w (by rfl) 35 (.tmp 31) rfl _ 41 rfl (r16 (z7n f)) _ (z8r (by assumption)) nund16 rfl (by rw[r16_size];exact ninfo16) ?_))
 have R0:Hid (NRegSt w f (baseM f (now%4294967296) 128) 0 wn):=⟨z7l (mapIs_mono HMn (by decide)) (fun n=>by refine Eq.trans (updM_twice _ 836 0 128 n 3072 _ (by decide)) ?_;exact rowM_zero f _ n),HLn⟩
 clear HMn HBn HLn HM0 HB0 HL0 hbox hmade CM HC
 generalize baseM f (now%4294967296) 128=B at *
 go_loopw [33] (fun i wr=>∃ k:Nat,k≤16∧i=.int .i64 k∧Hid (NRegSt w f B k wr)) (fun i _=>16-(intOf i).toNat)
 case atStart=>exact⟨0,Nat.zero_le _,rfl,R0.out⟩
 case round=>
  clear R0
  obtain⟨k,hk,rfl,hr⟩:=hrel
  by_cases hlt:k<16
  ·have hi:=fun w=>HI.out k hlt w
   have hw:wrap64 (1984+(k:Int))=1984+(k:Int):=z0y (by omega) (by omega)
   have HK:Hid (N64 (1984+(k:Int))):=⟨by omega,by omega⟩
   have HV:Hid (U32 (z7n f k)):=HU.out _
   have HN:Hid _:=fun n=>rowM_next f B k n
   have HG:Hid (z7n f k=f (41+k)):=rfl
   generalize z7n f k=gv at *
   go_wp2_with (first | (refine z5h rfl (Or.inl rfl) rfl rfl rfl hr.out.map HK.out HV.out (by unfold maxLen;omega) ?_;intro wn HMn HO HL;have HLn:=HL w.heap.size w (by omega) hr.out.below;clear HO HL))
   exact⟨⟨k+1,by omega,by go_num,z7l HMn (fun n=>by rw[HG.out];exact HN.out n),HLn⟩,by simp[intOf];omega⟩
  ·have hk16:k=16:=by omega
   subst hk16
   go_wp2
   go_ret
   exact⟨rfl,hr.out.below,z7l hr.out.map HR.out⟩
theorem z7i (f:Nat→Int) (u:Bool) (hu:∀ i,U32 (f i)) (now:Int) (due:Bool) (w:World):Calls Tryz.prog 102 #[.agg (z0c f u),.int .i64 now,.bool due] w fun e w'=>e=.returned (.map (some (w.heap.size+1)))∧Below w.heap.size w w'∧z5w w' (w.heap.size+1) 26 (regM f now due):=by
 cases due
 ·exact nregisters_false f u hu now w
 ·exact nregisters_true f u hu now w
theorem readE_two (n:Int):z2b n=0∨z2b n=2:=by unfold z2b;split;exact Or.inl rfl;exact Or.inr rfl
theorem nRead (f:Nat→Int) (u:Bool) (hu:∀ i,U32 (f i)) (n now:Int) (due:Bool) (w:World):Calls Tryz.prog 77 #[.agg (z0c f u),.int .i64 n,.int .i64 now,.bool due] w fun e w'=>e=.returned (.tuple #[.int .u32 (z4e f n now due),.int .i64 (z2b n)])∧Below w.heap.size w w':=by
 have C:Hid _:=z7i f u hu now due
 clear hu
 have hbox:=z3r f u
 obtain⟨fs,hfs⟩:=z3f
 have HS:Hid _:=hfs
 clear hfs
 have HB0:=z0g w (.cells (z0c f u) 37)
 rcases readE_two n with h | h
 ·have hM:regM f now due n=some (z4e f n now due):=by unfold regM;rw[if_pos h]
  rw[h]
  generalize z4e f n now due=N at *
  generalize regM f now due=M at *
  have HM:Hid _:=hM
  clear hM h
  go_enter Tryz.func77,Tryz.ntmps77
  go_wp2_with (first | (refine wpList_load_row rfl 37 (.tmp 4) rfl _ rfl _ _ _ _ (by assumption) HS.out rfl (by rw[z0b];exact z0o) ?_))
  refine (C.out _).mono ?_
  rintro e w1 ⟨rfl,b1,m1⟩
  have B:=z1u b1
  rw[World.size_alloc] at m1 ⊢
  go_wp2_with (first | (refine z4o rfl rfl rfl rfl m1 HM.out ?_))
  exact bodyPost_ret (v:=.tuple #[.int .u32 N,.int .i64 0]) (by simp[results,Tryz.results77,go_sem]) rfl ⟨rfl,B⟩
 ·have hM:regM f now due n=none:=by unfold regM;rw[if_neg (by omega)]
  have hN:z4e f n now due=0:=by
   have h3:¬(n=836∨n=3072∨(z2f n).isSome=true):=fun h2=>by
    unfold z2b at h
    rw[if_pos h2] at h
    cases h
   have h4:z2f n=none:=by
    cases hc:z2f n with
    | none=>rfl
    | some i=>exact absurd (Or.inr (Or.inr (by rw[hc];rfl))) h3
   unfold z4e
   rw[if_neg (fun e=>h3 (Or.inl e)),if_neg (fun e=>h3 (Or.inr (Or.inl e))),h4]
  rw[h,hN]
  generalize regM f now due=M at *
  have HM:Hid _:=hM
  clear hM h hN
  go_enter Tryz.func77,Tryz.ntmps77
  go_wp2_with (first | (refine wpList_load_row rfl 37 (.tmp 4) rfl _ rfl _ _ _ _ (by assumption) HS.out rfl (by rw[z0b];exact z0o) ?_))
  refine (C.out _).mono ?_
  rintro e w1 ⟨rfl,b1,m1⟩
  have B:=z1u b1
  rw[World.size_alloc] at m1 ⊢
  go_wp2_with (first | (refine z8e rfl rfl rfl rfl m1 HM.out ?_))
  exact bodyPost_ret (v:=.tuple #[.int .u32 0,.int .i64 2]) (by simp[results,Tryz.results77,go_sem]) rfl ⟨rfl,B⟩
def takeF (f:Nat→Int) (M:Int→Option Int) (k:Nat) (i:Nat):Int:=
 if i=34 then (M 768).getD 0 else if i=35 then (M 772).getD 0 else if i=36 then (M 773).getD 0 else if i=37 then (M 832).getD 0 else if i=38 then (M 833).getD 0 else if i=39 then (M 834).getD 0 else if i=40 then (M 835).getD 0
 else if 41≤i∧i<41+k then (M (1984+((i-41:Nat):Int))).getD 0 else f i
theorem takeF_zero (f:Nat→Int) (M:Int→Option Int) (i:Nat):set1 (set1 (set1 (set1 (set1 (set1 (set1 f 34 ((M 768).getD 0)) 35 ((M 772).getD 0)) 36 ((M 773).getD 0)) 37 ((M 832).getD 0)) 38 ((M 833).getD 0)) 39 ((M 834).getD 0)) 40 ((M 835).getD 0) i=takeF f M 0 i:=by
 by_cases a1:i=34
 ·subst a1;rfl
 by_cases a2:i=35
 ·subst a2;rfl
 by_cases a3:i=36
 ·subst a3;rfl
 by_cases a4:i=37
 ·subst a4;rfl
 by_cases a5:i=38
 ·subst a5;rfl
 by_cases a6:i=39
 ·subst a6;rfl
 by_cases a7:i=40
 ·subst a7;rfl
 unfold takeF set1
 rw[if_neg a1,if_neg a2,if_neg a3,if_neg a4,if_neg a5,if_neg a6,if_neg a7,if_neg a1,if_neg a2,if_neg a3,if_neg a4,if_neg a5,if_neg a6,if_neg a7,if_neg (by omega)]
theorem takeF_next (f:Nat→Int) (M:Int→Option Int) (k:Nat) (i:Nat):set1 (takeF f M k) (41+k) ((M (1984+(k:Int))).getD 0) i=takeF f M (k+1) i:=by
 unfold set1
 by_cases h:i=41+k
 ·subst h
  rw[if_pos rfl]
  unfold takeF
  rw[if_neg (by omega),if_neg (by omega),if_neg (by omega),if_neg (by omega),if_neg (by omega),if_neg (by omega),if_neg (by omega),if_pos (by omega),show 41+k-41=k by omega]
 ·rw[if_neg h]
  unfold takeF
  by_cases h2:41≤i∧i<41+k
  ·rw[if_pos h2,if_pos (show 41≤i∧i<41+(k+1) by omega)]
  ·rw[if_neg h2,if_neg (show ¬(41≤i∧i<41+(k+1)) by omega)]
structure KeepR (w:World) (f:Nat→Int) (u:Bool) (g n:Nat) (M:Int→Option Int) (k:Nat) (wr:World):Prop where
 row:wr.heap[w.heap.size]?=some (.cells (z0c (takeF f M k) u) 37)
 out:wr.heap[w.heap.size+1]?=some (.cells (z0c (fun _=>0) false) 37)
 map:z5w wr g n M
 below:Below w.heap.size w wr
theorem nkeep (f:Nat→Int) (u:Bool) (g n:Nat) (M:Int→Option Int) (w:World) (hm:z5w w g n M):Calls Tryz.prog 104 #[.agg (z0c f u),.map (some g)] w fun e w'=>e=.returned (.agg (z0c (takeF f M 16) u))∧Below w.heap.size w w':=by
 have hbox:=z3r f u
 obtain⟨fs,hfs⟩:=z3f
 have HS:Hid _:=hfs
 clear hfs
 have hg:=mapIs_lt hm
 have HM0:=mapIs_kept hm (show Below w.heap.size w ((w.alloc (.cells (z0c f u) 37)).alloc (.cells (z0c (fun _=>0) false) 37)) from box2)
 have HB0:((w.alloc (.cells (z0c f u) 37)).alloc (.cells (z0c (fun _=>0) false) 37)).heap[w.heap.size]?=some (.cells (z0c f u) 37):=z0m ((Below.refl _ _).alloc (Nat.le_refl _) _)
 have HZ0:((w.alloc (.cells (z0c f u) 37)).alloc (.cells (z0c (fun _=>0) false) 37)).heap[w.heap.size+1]?=some (.cells (z0c (fun _=>0) false) 37):=by have:=z0g (w.alloc (.cells (z0c f u) 37)) (.cells (z0c (fun _=>0) false) 37);rwa [World.size_alloc] at this
 have HL0:Below w.heap.size w ((w.alloc (.cells (z0c f u) 37)).alloc (.cells (z0c (fun _=>0) false) 37)):=box2
 clear hm
 have z57:=z8d
 go_enter Tryz.func104,Tryz.ntmps104
 go_wp2_with (first | (refine wpList_mget rfl rfl rfl rfl (by assumption) ?_) | (refine z0h rfl rfl rfl rfl (by assumption) (by first | decide | omega) (by first | decide | omega) ?_;intro wn HBn HO HL;have HZn:=Eq.trans (HO (w.heap.size+1) (by omega)) (by assumption);have HMn:=mapIs_block (by assumption) (HO g (by omega));have HLn:=HL w.heap.size w (Nat.le_refl _) (by assumption);clear HO HL))
 rw[z5k (fun i _ _=>takeF_zero f M i)] at HBn
 have R0:Hid (KeepR w f u g n M 0 wn):=⟨HBn,HZn,HMn,HLn⟩
 clear HBn HZn HMn HLn HM0 HB0 HZ0 HL0 hbox z57
 go_loopw [27] (fun i wr=>∃ k:Nat,k≤16∧i=.int .i64 k∧Hid (KeepR w f u g n M k wr)) (fun i _=>16-(intOf i).toNat)
 case atStart=>exact⟨0,Nat.zero_le _,rfl,R0.out⟩
 case round=>
  clear R0
  obtain⟨k,hk,rfl,hr⟩:=hrel
  have HB1:=hr.out.row
  have HZ1:=hr.out.out
  have HM1:=hr.out.map
  have HL1:=hr.out.below
  clear hr
  by_cases hlt:k<16
  ·have hw:wrap64 (1984+(k:Int))=1984+(k:Int):=z0y (by omega) (by omega)
   have i5:(0:Int)≤(k:Int):=by omega
   have i6:(k:Int)<16:=by omega
   go_wp2_with (first | (refine wpList_mget rfl rfl rfl rfl (by assumption) ?_) | (refine z0h rfl rfl rfl rfl (by assumption) (by first | decide | omega) (by first | decide | omega) ?_;intro wn HBn HO HL;have HZn:=Eq.trans (HO (w.heap.size+1) (by omega)) (by assumption);have HMn:=mapIs_block (by assumption) (HO g (by omega));have HLn:=HL w.heap.size w (Nat.le_refl _) (by assumption);clear HO HL))
   have HF:Hid (KeepR w f u g n M (k+1) wn):=⟨by rw[HBn,z5k (fun i _ _=>takeF_next f M k i)],HZn,HMn,HLn⟩
   exact⟨⟨k+1,hlt,by go_num,HF.out⟩,by simp[intOf];omega⟩
  ·have hk16:k=16:=by omega
   subst hk16
   go_wp2_with (first | (refine wpList_load_row rfl 37 (.tmp 2) rfl _ rfl _ _ _ _ (by assumption) HS.out rfl (by rw[z0b];exact z0o) ?_) | (refine wpList_store_row rfl 37 (.tmp 4) (.tmp 38) rfl _ (z0c _ _) rfl rfl _ _ (by assumption) (by rw[z0b];exact z0o) (by rw[z0b];rfl) (z0s _ _) ?_))
   exact bodyPost_ret (results_cell_row rfl _ _ _ _ _ _ _ rfl (setRow_heap _ _ _ _ _ _ (by assumption)) HS.out rfl (by rw[z0b];exact z0o)) rfl ⟨rfl,below_setRow HL1 (Nat.le_succ _) _⟩
def numOf (c:Nat):Int:=if c=34 then 768 else if c=35 then 772 else if c=36 then 773 else if c=37 then 832 else if c=38 then 833 else if c=39 then 834 else if c=40 then 835 else 1984+((c-41:Nat):Int)
theorem cellOf_inv {n:Int} {c:Nat} (h:z2f n=some c):n=numOf c∧34≤c∧c<57:=by
 unfold z2f at h
 by_cases a1:n=768
 ·subst a1;cases h;exact⟨rfl,by decide,by decide⟩
 by_cases a2:n=772
 ·subst a2;cases h;exact⟨rfl,by decide,by decide⟩
 by_cases a3:n=773
 ·subst a3;cases h;exact⟨rfl,by decide,by decide⟩
 by_cases a4:n=832
 ·subst a4;cases h;exact⟨rfl,by decide,by decide⟩
 by_cases a5:n=833
 ·subst a5;cases h;exact⟨rfl,by decide,by decide⟩
 by_cases a6:n=834
 ·subst a6;cases h;exact⟨rfl,by decide,by decide⟩
 by_cases a7:n=835
 ·subst a7;cases h;exact⟨rfl,by decide,by decide⟩
 rw[if_neg a1,if_neg a2,if_neg a3,if_neg a4,if_neg a5,if_neg a6,if_neg a7] at h
 by_cases a8:1984≤n∧n<2000
 ·rw[if_pos a8] at h
  cases h
  refine⟨?_,by omega,by omega⟩
  unfold numOf
  rw[if_neg (by omega),if_neg (by omega),if_neg (by omega),if_neg (by omega),if_neg (by omega),if_neg (by omega),if_neg (by omega)]
  omega
 ·rw[if_neg a8] at h;cases h
theorem takeF_num (f:Nat→Int) (M:Int→Option Int) (i:Nat):takeF f M 16 i=if 34≤i∧i<57 then (M (numOf i)).getD 0 else f i:=by
 by_cases a1:i=34
 ·subst a1;rfl
 by_cases a2:i=35
 ·subst a2;rfl
 by_cases a3:i=36
 ·subst a3;rfl
 by_cases a4:i=37
 ·subst a4;rfl
 by_cases a5:i=38
 ·subst a5;rfl
 by_cases a6:i=39
 ·subst a6;rfl
 by_cases a7:i=40
 ·subst a7;rfl
 unfold takeF numOf
 rw[if_neg a1,if_neg a2,if_neg a3,if_neg a4,if_neg a5,if_neg a6,if_neg a7,if_neg a1,if_neg a2,if_neg a3,if_neg a4,if_neg a5,if_neg a6,if_neg a7]
 by_cases h:41≤i∧i<57
 ·rw[if_pos (by omega),if_pos (by omega)]
 ·rw[if_neg (by omega),if_neg (by omega)]
theorem numOf_inj {i c:Nat} (hi:34≤i∧i<57) (hc:34≤c∧c<57) (h:numOf i=numOf c):i=c:=by
 unfold numOf at h
 repeat' split at h
 all_goals omega
theorem cellOf_num {i:Nat} (hi:34≤i∧i<57):z2f (numOf i)=some i:=by
 by_cases a1:i=34
 ·subst a1;rfl
 by_cases a2:i=35
 ·subst a2;rfl
 by_cases a3:i=36
 ·subst a3;rfl
 by_cases a4:i=37
 ·subst a4;rfl
 by_cases a5:i=38
 ·subst a5;rfl
 by_cases a6:i=39
 ·subst a6;rfl
 by_cases a7:i=40
 ·subst a7;rfl
 unfold numOf
 rw[if_neg a1,if_neg a2,if_neg a3,if_neg a4,if_neg a5,if_neg a6,if_neg a7]
 unfold z2f
 rw[if_neg (by omega),if_neg (by omega),if_neg (by omega),if_neg (by omega),if_neg (by omega),if_neg (by omega),if_neg (by omega),if_pos (by omega)]
 congr 1
 omega
theorem cell_ne {n:Int} {c:Nat} (h:z2f n=some c):¬n=836∧¬n=3072:=by
 constructor <;> (intro e;subst e;cases h)
theorem regM_cell (f:Nat→Int) (now:Int) (due:Bool) {n:Int} {c:Nat} (h:z2f n=some c):regM f now due n=some (f c):=by
 have e1:z2b n=0:=by unfold z2b;rw[if_pos (Or.inr (Or.inr (by rw[h];rfl)))]
 have e2:z4e f n now due=f c:=by unfold z4e;rw[if_neg (cell_ne h).1,if_neg (cell_ne h).2,h]
 unfold regM
 rw[if_pos e1,e2]
theorem take_write (f:Nat→Int) (n v:Int) (c:Nat) (h:z2f n=some c) (i:Nat):takeF f (updM (regM f 0 false) n v) 16 i=set1 f c v i:=by
 obtain⟨h1,h2⟩:=cellOf_inv h
 rw[takeF_num]
 unfold set1 updM
 by_cases hi:34≤i∧i<57
 ·rw[if_pos hi]
  by_cases hic:i=c
  ·subst hic
   rw[if_pos h1.symm,if_pos rfl];rfl
  ·rw[if_neg (fun e=>hic (numOf_inj hi h2 (e.trans h1))),if_neg hic,regM_cell f 0 false (cellOf_num hi)];rfl
 ·rw[if_neg hi,if_neg (by intro e;subst e;exact hi h2)]
theorem keepV_u {n x:Int} (hx:U32 x):U32 (z7t n x):=by
 unfold z7t
 split
 ·unfold statV;split <;> exact z1t _ _ _
 split
 ·exact z1t _ _ _
 split
 ·obtain⟨h0,h1⟩:=hx;exact⟨by omega,by omega⟩
 ·exact hx
theorem z5a {P:Program} {fn:Func} {p q:Tmp} {ty:TypeId} (h:fn.results=#[.cell p ty,.tmp q]) (tmps:Array Value) (w:World) (g:Nat) (t:TypeId) (cs:Array Value) (fr:Nat × Nat) (d:TypeDesc) (e:Value)
  (hp:tmps.getD p undef=.pointer (some ⟨g,0,none⟩)) (hq:tmps.getD q undef=e) (hg:w.heap[g]?=some (.cells cs t fr))
  (hu:P.underlying ty=some d) (hd:(match d with | .struct _ | .array _ _=>true | _=>false)=true) (hi:(P.info? ty).map (·.size)=some cs.size) :
  (results fn tmps).run P w=.ok (.tuple #[.agg cs,e]) w:=by
 have hp':tmps[p]?.getD undef=.pointer (some ⟨g,0,none⟩):=by simpa using hp
 have hq':tmps[q]?.getD undef=e:=by simpa using hq
 simp[results,h,hp',hq',asAddr,run_loadVar_row w g t ty cs fr d hg hu hd hi,Result.andThen]
theorem nWrite_none (f:Nat→Int) (u:Bool) (hu:∀ i,U32 (f i)) (n x:Int) (h:z2b n=2) (w:World):Calls Tryz.prog 78 #[.agg (z0c f u),.int .i64 n,.int .u32 x] w fun e w'=>e=.returned (.tuple #[.agg (z0c f u),.int .i64 2])∧Below w.heap.size w w':=by
 have HU:Hid _:=hu
 have HM:Hid (regM f 0 false n=none):=by show _=_;unfold regM;rw[if_neg (by omega)]
 clear hu h
 have C:Hid _:=z7i f u HU.out 0 false
 have hbox:=z3r f u
 obtain⟨fs,hfs⟩:=z3f
 have HS:Hid _:=hfs
 clear hfs
 have HB0:((w.alloc (.cells (z0c f u) 37)).alloc (.cells (z0c (fun _=>0) false) 37)).heap[w.heap.size]?=some (.cells (z0c f u) 37):=z0m ((Below.refl _ _).alloc (Nat.le_refl _) _)
 have HZ0:((w.alloc (.cells (z0c f u) 37)).alloc (.cells (z0c (fun _=>0) false) 37)).heap[w.heap.size+1]?=some (.cells (z0c (fun _=>0) false) 37):=by have:=z0g (w.alloc (.cells (z0c f u) 37)) (.cells (z0c (fun _=>0) false) 37);rwa [World.size_alloc] at this
 have HL0:Below w.heap.size w ((w.alloc (.cells (z0c f u) 37)).alloc (.cells (z0c (fun _=>0) false) 37)):=box2
 have z57:=z8d
 go_enter Tryz.func78,Tryz.ntmps78
 go_wp2_with (first | (refine wpList_load_row rfl 37 (.tmp 3) rfl _ rfl _ _ _ _ (by assumption) HS.out rfl (by rw[z0b];exact z0o) ?_))
 refine (C.out _).mono ?_
 rintro e w1 ⟨rfl,b1,m1⟩
 rw[World.size_alloc,World.size_alloc] at m1 ⊢
 have HB1:=z0f HB0 b1
 have HZ1:=z0f HZ0 b1
 have HL1:=z0e HL0 b1
 clear HB0 HZ0 HL0 b1 C
 go_wp2_with (first | (refine z8e rfl rfl rfl rfl m1 HM.out ?_) | (refine wpList_load_row rfl 37 (.tmp 3) rfl _ rfl _ _ _ _ (by assumption) HS.out rfl (by rw[z0b];exact z0o) ?_) | (refine wpList_store_row rfl 37 (.tmp 6) (.tmp 21) rfl _ (z0c _ _) rfl rfl _ _ (by assumption) (by rw[z0b];exact z0o) (by rw[z0b];rfl) (z0s _ _) ?_))
 exact bodyPost_ret (z5a rfl _ _ _ _ _ _ _ _ rfl rfl (setRow_heap _ _ _ _ _ _ (by assumption)) HS.out rfl (by rw[z0b];exact z0o)) rfl ⟨rfl,below_setRow HL1 (Nat.le_succ _) _⟩
theorem nWrite_836 (f:Nat→Int) (u:Bool) (hu:∀ i,U32 (f i)) (x:Int) (w:World):Calls Tryz.prog 78 #[.agg (z0c f u),.int .i64 836,.int .u32 x] w fun e w'=>e=.returned (.tuple #[.agg (z0c f u),.int .i64 7])∧Below w.heap.size w w':=by
 have HU:Hid _:=hu
 have HM:Hid (regM f 0 false 836=some 0):=by show _=_;rfl
 clear hu
 have C:Hid _:=z7i f u HU.out 0 false
 have hbox:=z3r f u
 obtain⟨fs,hfs⟩:=z3f
 have HS:Hid _:=hfs
 clear hfs
 have HB0:((w.alloc (.cells (z0c f u) 37)).alloc (.cells (z0c (fun _=>0) false) 37)).heap[w.heap.size]?=some (.cells (z0c f u) 37):=z0m ((Below.refl _ _).alloc (Nat.le_refl _) _)
 have HZ0:((w.alloc (.cells (z0c f u) 37)).alloc (.cells (z0c (fun _=>0) false) 37)).heap[w.heap.size+1]?=some (.cells (z0c (fun _=>0) false) 37):=by have:=z0g (w.alloc (.cells (z0c f u) 37)) (.cells (z0c (fun _=>0) false) 37);rwa [World.size_alloc] at this
 have HL0:Below w.heap.size w ((w.alloc (.cells (z0c f u) 37)).alloc (.cells (z0c (fun _=>0) false) 37)):=box2
 have z57:=z8d
 go_enter Tryz.func78,Tryz.ntmps78
 go_wp2_with (first | (refine wpList_load_row rfl 37 (.tmp 3) rfl _ rfl _ _ _ _ (by assumption) HS.out rfl (by rw[z0b];exact z0o) ?_))
 refine (C.out _).mono ?_
 rintro e w1 ⟨rfl,b1,m1⟩
 rw[World.size_alloc,World.size_alloc] at m1 ⊢
 have HB1:=z0f HB0 b1
 have HZ1:=z0f HZ0 b1
 have HL1:=z0e HL0 b1
 clear HB0 HZ0 HL0 b1 C
 go_wp2_with (first | (refine z4o rfl rfl rfl rfl m1 HM.out ?_) | (refine wpList_load_row rfl 37 (.tmp 3) rfl _ rfl _ _ _ _ (by assumption) HS.out rfl (by rw[z0b];exact z0o) ?_) | (refine wpList_store_row rfl 37 (.tmp 6) (.tmp 28) rfl _ (z0c _ _) rfl rfl _ _ (by assumption) (by rw[z0b];exact z0o) (by rw[z0b];rfl) (z0s _ _) ?_))
 exact bodyPost_ret (z5a rfl _ _ _ _ _ _ _ _ rfl rfl (setRow_heap _ _ _ _ _ _ (by assumption)) HS.out rfl (by rw[z0b];exact z0o)) rfl ⟨rfl,below_setRow HL1 (Nat.le_succ _) _⟩
theorem nWrite_3072 (f:Nat→Int) (u:Bool) (hu:∀ i,U32 (f i)) (x:Int) (w:World):Calls Tryz.prog 78 #[.agg (z0c f u),.int .i64 3072,.int .u32 x] w fun e w'=>e=.returned (.tuple #[.agg (z0c f u),.int .i64 7])∧Below w.heap.size w w':=by
 have HU:Hid _:=hu
 have HM:Hid (regM f 0 false 3072=some 0):=by show _=_;rfl
 clear hu
 have C:Hid _:=z7i f u HU.out 0 false
 have hbox:=z3r f u
 obtain⟨fs,hfs⟩:=z3f
 have HS:Hid _:=hfs
 clear hfs
 have HB0:((w.alloc (.cells (z0c f u) 37)).alloc (.cells (z0c (fun _=>0) false) 37)).heap[w.heap.size]?=some (.cells (z0c f u) 37):=z0m ((Below.refl _ _).alloc (Nat.le_refl _) _)
 have HZ0:((w.alloc (.cells (z0c f u) 37)).alloc (.cells (z0c (fun _=>0) false) 37)).heap[w.heap.size+1]?=some (.cells (z0c (fun _=>0) false) 37):=by have:=z0g (w.alloc (.cells (z0c f u) 37)) (.cells (z0c (fun _=>0) false) 37);rwa [World.size_alloc] at this
 have HL0:Below w.heap.size w ((w.alloc (.cells (z0c f u) 37)).alloc (.cells (z0c (fun _=>0) false) 37)):=box2
 have z57:=z8d
 go_enter Tryz.func78,Tryz.ntmps78
 go_wp2_with (first | (refine wpList_load_row rfl 37 (.tmp 3) rfl _ rfl _ _ _ _ (by assumption) HS.out rfl (by rw[z0b];exact z0o) ?_))
 refine (C.out _).mono ?_
 rintro e w1 ⟨rfl,b1,m1⟩
 rw[World.size_alloc,World.size_alloc] at m1 ⊢
 have HB1:=z0f HB0 b1
 have HZ1:=z0f HZ0 b1
 have HL1:=z0e HL0 b1
 clear HB0 HZ0 HL0 b1 C
 go_wp2_with (first | (refine z4o rfl rfl rfl rfl m1 HM.out ?_) | (refine wpList_load_row rfl 37 (.tmp 3) rfl _ rfl _ _ _ _ (by assumption) HS.out rfl (by rw[z0b];exact z0o) ?_) | (refine wpList_store_row rfl 37 (.tmp 6) (.tmp 28) rfl _ (z0c _ _) rfl rfl _ _ (by assumption) (by rw[z0b];exact z0o) (by rw[z0b];rfl) (z0s _ _) ?_))
 exact bodyPost_ret (z5a rfl _ _ _ _ _ _ _ _ rfl rfl (setRow_heap _ _ _ _ _ _ (by assumption)) HS.out rfl (by rw[z0b];exact z0o)) rfl ⟨rfl,below_setRow HL1 (Nat.le_succ _) _⟩
theorem nWrite_cell (f:Nat→Int) (u:Bool) (hu:∀ i,U32 (f i)) (n x:Int) (hx:U32 x) (c:Nat) (hc:z2f n=some c) (w:World):Calls Tryz.prog 78 #[.agg (z0c f u),.int .i64 n,.int .u32 x] w fun e w'=>e=.returned (.tuple #[.agg (z0c (set1 f c (z7t n x)) u),.int .i64 0])∧Below w.heap.size w w':=by
 have HU:Hid _:=hu
 have HM:Hid (regM f 0 false n=some (f c)):=regM_cell f 0 false hc
 have HT:Hid _:=fun i=>take_write f n (z7t n x) c hc i
 have CH:Hid _:=nheld n x hx
 have HV:Hid (U32 (z7t n x)):=keepV_u hx
 have HN:Hid (N64 n):=by
  have hn:=(cellOf_inv hc).1
  have hb:=(cellOf_inv hc).2
  unfold numOf at hn
  refine⟨?_,?_⟩ <;> (repeat' split at hn) <;> omega
 obtain⟨h1,h2⟩:=cell_ne hc
 have q1:(n==836)=false:=by simpa using h1
 have q2:(n==3072)=false:=by simpa using h2
 clear hu hx hc h1 h2
 generalize z7t n x=kv at *
 have C:Hid _:=z7i f u HU.out 0 false
 have hbox:=z3r f u
 obtain⟨fs,hfs⟩:=z3f
 have HS:Hid _:=hfs
 clear hfs
 have HB0:((w.alloc (.cells (z0c f u) 37)).alloc (.cells (z0c (fun _=>0) false) 37)).heap[w.heap.size]?=some (.cells (z0c f u) 37):=z0m ((Below.refl _ _).alloc (Nat.le_refl _) _)
 have HZ0:((w.alloc (.cells (z0c f u) 37)).alloc (.cells (z0c (fun _=>0) false) 37)).heap[w.heap.size+1]?=some (.cells (z0c (fun _=>0) false) 37):=by have:=z0g (w.alloc (.cells (z0c f u) 37)) (.cells (z0c (fun _=>0) false) 37);rwa [World.size_alloc] at this
 have HL0:Below w.heap.size w ((w.alloc (.cells (z0c f u) 37)).alloc (.cells (z0c (fun _=>0) false) 37)):=box2
 have z57:=z8d
 go_enter Tryz.func78,Tryz.ntmps78
 go_wp2_with (first | (refine wpList_load_row rfl 37 (.tmp 3) rfl _ rfl _ _ _ _ (by assumption) HS.out rfl (by rw[z0b];exact z0o) ?_))
 refine (C.out _).mono ?_
 rintro e w1 ⟨rfl,b1,m1⟩
 rw[World.size_alloc,World.size_alloc] at m1 ⊢
 have HB1:=z0f HB0 b1
 have HZ1:=z0f HZ0 b1
 have HL1:=z0e HL0 b1
 clear HB0 HZ0 HL0 b1 C
 go_wp2_with (first | (refine z4o rfl rfl rfl rfl m1 HM.out ?_))
 refine (CH.out _).mono ?_
 rintro e w2 ⟨rfl,b2⟩
 have HB2:=z0f HB1 b2
 have HZ2:=z0f HZ1 b2
 have HL2:=z0e HL1 b2
 have m2:=mapIs_kept m1 b2
 clear HB1 HZ1 HL1 b2 m1 CH
 go_wp2_with (first | (refine z5h rfl (Or.inl rfl) rfl rfl rfl m2 HN.out HV.out (by decide) ?_;intro w3 m3 HO HL;have HB3:=HO w.heap.size _ (by omega) HB2;have HZ3:=HO (w.heap.size+1) _ (by omega) HZ2;have HL3:=HL w.heap.size w (by omega) HL2;clear HO HL HB2 HZ2 HL2 m2) | (refine wpList_load_row rfl 37 (.tmp 3) rfl _ rfl _ _ _ _ (by assumption) HS.out rfl (by rw[z0b];exact z0o) ?_))
 refine (nkeep f u _ _ _ _ m3).mono ?_
 rintro e w4 ⟨rfl,b4⟩
 have HB4:=z0f HB3 b4
 have HZ4:=z0f HZ3 b4
 have HL4:=z0e HL3 b4
 clear HB3 HZ3 HL3 b4 m3
 rw[z5k (fun i _ _=>HT.out i)]
 go_wp2_with (first | (refine wpList_store_row rfl 37 (.tmp 6) (.tmp 36) rfl _ (z0c _ _) rfl rfl _ _ (by assumption) (by rw[z0b];exact z0o) (by rw[z0b];rfl) (z0s _ _) ?_))
 exact bodyPost_ret (z5a rfl _ _ _ _ _ _ _ _ rfl rfl (setRow_heap _ _ _ _ _ _ (by assumption)) HS.out rfl (by rw[z0b];exact z0o)) rfl ⟨rfl,below_setRow HL4 (Nat.le_succ _) _⟩
theorem nWrite (f:Nat→Int) (u:Bool) (hu:∀ i,U32 (f i)) (n x:Int) (hx:U32 x) (w:World):Calls Tryz.prog 78 #[.agg (z0c f u),.int .i64 n,.int .u32 x] w fun e w'=>e=.returned (.tuple #[.agg (z0c (z2o f n x) u),.int .i64 (z2y n)])∧Below w.heap.size w w':=by
 by_cases h1:n=836
 ·subst h1;exact nWrite_836 f u hu x w
 by_cases h2:n=3072
 ·subst h2;exact nWrite_3072 f u hu x w
 cases hc:z2f n with
 | some c=>
  have e1:z2o f n x=set1 f c (z7t n x):=by unfold z2o;rw[hc]
  have e2:z2y n=0:=by unfold z2y;rw[if_neg (by omega),hc];rfl
  rw[e1,e2]
  exact nWrite_cell f u hu n x hx c hc w
 | none=>
  have e1:z2o f n x=f:=by unfold z2o;rw[hc]
  have e2:z2y n=2:=by unfold z2y;rw[if_neg (by omega),hc];rfl
  rw[e1,e2]
  exact nWrite_none f u hu n x (by unfold z2b;rw[hc,if_neg (by simp[h1,h2])]) w
end Go.Proofs.YtilcoimelnpkeaaGreatDoor
