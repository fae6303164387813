/-
  Contracts of functions that the statement reaches, and what they are made of, callees first.
-/
import Derived.Test.YthojokcmaodbpaaGreatDoorPrInsq
import Derived.Test.YthojokcmaodbpaaGreatDoorPrLawr6
import Derived.Test.YthojokcmaodbpaaGreatDoorPra
set_option maxRecDepth 100000
set_option maxHeartbeats 8000000
namespace Go.Proofs.YthojokcmaodbpaaGreatDoor
section
open Go.RowKit
theorem run_row {P:Program} {o:Oper} {a:Act} {w:World} (ty:TypeId) (x:Operand) (ho:o.op=.load ty x) (g:Nat) (hx:a.eval x=.pointer (some ⟨g,0,none⟩)) (t:TypeId) (cs:Array Value) (ds:TypeDesc)
  (hg:w.heap[g]?=some (.cells cs t)) (hu:P.underlying ty=some ds) (hk:(match ds with | .struct _ | .array _ _=>true | _=>false)=true) (hi:(P.info? ty).map (·.size)=some cs.size):(execOp a.eval o).run P w=.ok (.value (.agg cs)) w:=by
 unfold execOp
 simp only[ho,hx,Instr.loadAt,Instr.sureAddr,Sem.run_bind,Sem.run_pure,Result.andThen_ok,run_loadVar_row w g t ty cs _ ds hg hu hk hi]
theorem putN_u (i:MIns):U32 (putN i):=by
 unfold putN
 split
 ·rename_i h;exact put_u32 h
 ·exact⟨by decide,by decide⟩
theorem kWord (s:ByteArray) (d a b m:Int) (w:World) :
  Calls Tryz.prog 17 #[.agg #[.string s,.int .i64 d,.int .i64 a,.int .i64 b,.int .i32 m]] w fun e w'=>e=.returned (.int .u32 (putN ⟨s.toList,d,a,b,m⟩))∧Below w.heap.size w w':=by
 have CP:Hid _:=rPut s d a b m
 have fd:=fld0
 generalize putN ⟨s.toList,d,a,b,m⟩=x at *
 generalize putE ⟨s.toList,d,a,b,m⟩=e at *
 go_enter Tryz.func17,Tryz.ntmps17
 go_wp2_with fail
 refine (CP.out _).mono ?_
 rintro e1 w1 ⟨rfl,b1⟩
 have B1:=z1u b1
 go_wp2
 go_ret
 exact⟨rfl,B1⟩
def oneF (f:Nat→Int):Nat→Int:=set1 (set1 (set1 f 32 4) 41 0) 42 35
theorem coreOne_way {Is:z6d} (K:CoreK Is) (wh d a b m:Int) (hwh:0≤wh∧wh≤255) (hd:0≤d∧d≤255) (ha:0≤a∧a≤255) (hb:0≤b∧b≤255) (hm:-2147483648≤m∧m≤2147483647) (a':Option Addr) (n' cap':Nat) (zs':List Int) (u:Bool) (w:World) (b' off':Nat)
  (hm':n'≤maxLen) (ha':0<n'→a'=some ⟨b',off',none⟩∧b'<w.heap.size) (hc':∀ i,i<n'→w.cell? ⟨b',off'+i,none⟩=some (.int .u32 (zs'.getD i 0))) (hu':∀ z∈zs',U32 z) :
  Calls Tryz.prog 5 #[.int .u8 wh,.int .u8 d,.int .u8 a,.int .u8 b,.int .i32 m,.slice a' n' cap',.bool u] w fun e w'=>e=.returned (.bool true)∧Below w.heap.size w w':=by
 have HK:Hid _:=K
 have ta:a.tmod 8=a%8:=Int.tmod_eq_emod_of_nonneg ha.1
 have tb:b.tmod 8=b%8:=Int.tmod_eq_emod_of_nonneg hb.1
 have CI:Hid _:=rIns wh d (a%8) (b%8) m hwh hd (by omega) (by omega) hm
 have CR:Hid (∀ W,Below w.heap.size w W→Calls Tryz.prog 15 #[.slice a' n' cap',.bool u] W fun e w'=>e=.returned (.agg (z0c (regsF zs' n') u))∧Below W.heap.size W w'):=fun W hB=>
  lregs a' b' off' n' cap' zs' u W hm' (fun h=>⟨(ha' h).1,Nat.lt_of_lt_of_le (ha' h).2 hB.size⟩) (fun i hi=>by rw[hB.cell (p:=⟨b',off'+i,none⟩) (ha' (by omega)).2];exact hc' i hi)
 have HF:Hid (∀ i,U32 (regsF zs' n' i)):=fun i=>regsP_u (wat_u hu' n') 8 i
 obtain⟨fs,hfs⟩:=z3f
 have HS:Hid _:=hfs
 clear K hwh hd ha hb hm hm' ha' hc' hu' hfs
 generalize regsF zs' n'=f at *
 generalize opAt (wh%53).toNat=sn at *
 generalize (insN wh d (a%8) (b%8) m).d=di at *
 generalize (insN wh d (a%8) (b%8) m).a=ai at *
 generalize (insN wh d (a%8) (b%8) m).b=bi at *
 generalize (insN wh d (a%8) (b%8) m).m=mi at *
 have CW:Hid _:=kWord sn di ai bi mi
 have HX:Hid _:=putN_u ⟨sn.toList,di,ai,bi,mi⟩
 generalize putN ⟨sn.toList,di,ai,bi,mi⟩=x at *
 go_enter Tryz.func5,Tryz.ntmps5
 go_wp2_with fail
 refine (CI.out _).mono ?_
 rintro e w1 ⟨rfl,b1⟩
 have B2:Hid (Below w.heap.size w (w1.alloc (.cells #[.string sn,.int .i64 di,.int .i64 ai,.int .i64 bi,.int .i32 mi] 42))):=b1.alloc b1.size _
 have I2:=z0g w1 (.cells #[.string sn,.int .i64 di,.int .i64 ai,.int .i64 bi,.int .i32 mi] 42)
 clear b1 CI
 go_wp2_with fail
 generalize w1.alloc (.cells #[.string sn,.int .i64 di,.int .i64 ai,.int .i64 bi,.int .i32 mi] 42)=w2 at *
 have hw2:w1.heap.size<w2.heap.size:=(Array.getElem?_eq_some_iff.1 I2).1
 generalize w1.heap.size=ib at *
 refine (CR.out _ B2.out).mono ?_
 rintro e w3 ⟨rfl,b3⟩
 have B3:Hid _:=z0e B2.out b3
 have I3:=z0f I2 b3
 have hw3:ib<w3.heap.size:=(Array.getElem?_eq_some_iff.1 I3).1
 clear b3 CR I2 B2 hw2
 go_wp2_with (first | (refine z4p rfl 32 (.tmp 16) (.tmp 27) rfl rfl (z0c _ _) rfl 32 _ (by rw[z0b];exact z0o) (by rw[z8d,z0b,z0b]) (z0s _ _) ?_))
 intro w4 R4 b4
 have I4:=z0f I3 b4
 have B4:=z0e B3.out b4
 have hsz:w.heap.size≤w3.heap.size:=B3.out.size
 clear b4 I3 B3
 generalize w3.heap.size=rb at *
 go_wp2_with (first | (refine z0h rfl rfl rfl rfl (by assumption) (by decide) (by decide) ?_;intro wn Rn HO HL;have In:=Eq.trans (HO ib (by omega)) (by assumption);have Bn:=HL w.heap.size w hsz (by assumption);clear HO HL))
 have R5:Hid (wn.heap[rb]?=some (.cells (z0c (oneF f) u) 32)):=Rn
 have I5:Hid (wn.heap[ib]?=some (.cells #[.string sn,.int .i64 di,.int .i64 ai,.int .i64 bi,.int .i32 mi] 42)):=In
 have B5:Hid (Below w.heap.size w wn):=Bn
 have HO:Hid (∀ i,U32 (oneF f i)):=z4m (z4m (z4m HF.out 32 ⟨by decide,by decide⟩) 41 ⟨by decide,by decide⟩) 42 ⟨by decide,by decide⟩
 generalize oneF f=g at *
 clear R4 I4 B4 Rn In Bn
 refine wp_region_noPanic ?_
 refine wp_region_held_drew (S:=fun w'=>w'.heap[rb]?=some (.cells (z0c g u) 32)∧w'.heap[ib]?=some (.cells #[.string sn,.int .i64 di,.int .i64 ai,.int .i64 bi,.int .i32 mi] 42)∧Below w.heap.size w w') (by kernel_rfl) ⟨R5.out,I5.out,B5.out.drew⟩ (fun hHeld=>?_)
 refine z0n 0 (some 33) (v:=?_) rfl rfl (by kernel_rfl) (by kernel_rfl) (by kernel_rfl) (fun _ _ _ h=>h) (Or.inl ⟨by rfl,?_⟩) (by assumption) ?_
 rotate_left
 ·intro w' hSw
  obtain⟨ic,_,_⟩:=z0a hSw.2.1
  have i0:=ic 0 (.string sn) rfl
  have i1:=ic 1 (.int .i64 di) rfl
  have i2:=ic 2 (.int .i64 ai) rfl
  have i3:=ic 3 (.int .i64 bi) rfl
  have i4:=ic 4 (.int .i32 mi) rfl
  go_simp
  try with_reducible rfl
 simp only[Act.put,List.setIfInBounds_toArray,List.set_cons_zero,List.set_cons_succ]
 refine z0n 3 (some 36) (v:=.agg (z0c g u)) rfl rfl (by kernel_rfl) (by kernel_rfl) (by kernel_rfl) (fun _ _ _ h=>h) (Or.inl ⟨by rfl,fun w' hSw=>run_row 32 (.tmp 16) rfl rb rfl _ _ _ hSw.1 HS.out rfl (by rw[z0b];exact z0o)⟩) (by assumption) ?_
 simp only[Act.put,List.setIfInBounds_toArray,List.set_cons_zero,List.set_cons_succ]
 refine z5q 1 (some 34) 17 #[.agg #[.string sn,.int .i64 di,.int .i64 ai,.int .i64 bi,.int .i32 mi]] rfl rfl (by rfl) (by kernel_rfl) (by kernel_rfl) (Calls.mono (CW.out _) ?_)
 rintro e v1 ⟨rfl,c1⟩
 have R6:Hid _:=z0f hHeld.1 c1
 have I6:Hid _:=z0f hHeld.2.1 c1
 have B6:Hid _:=z0e hHeld.2.2 c1
 clear R5 I5 B5 hHeld c1 CW
 refine⟨_,rfl,⟨R6.out,I6.out,B6.out⟩,fun hHeld=>?_⟩
 simp only[Act.put,List.setIfInBounds_toArray,List.set_cons_zero,List.set_cons_succ]
 have HC:Hid (∀ i,i<[7,x,9,305419896,2147483648,5,6,7].length→(v1.alloc (.cells #[.int .u32 7,.int .u32 x,.int .u32 9,.int .u32 305419896,.int .u32 2147483648,.int .u32 5,.int .u32 6,.int .u32 7] 28)).cell? ⟨v1.heap.size,0+i,none⟩=some (.int .u32 (z0p [7,x,9,305419896,2147483648,5,6,7] i))):=fun i hi=>by
  have hi:i<8:=hi
  refine (z0a (z0g v1 _)).1 _ _ ?_
  rcases (by omega:i=0∨i=1∨i=2∨i=3∨i=4∨i=5∨i=6∨i=7) with rfl | rfl | rfl | rfl | rfl | rfl | rfl | rfl <;> rfl
 have HU:Hid (∀ i,U32 (z0p [7,x,9,305419896,2147483648,5,6,7] i)):=word_u fun z hz=>by
  simp only[List.mem_cons,List.not_mem_nil,or_false] at hz
  rcases hz with rfl | rfl | rfl | rfl | rfl | rfl | rfl | rfl
  all_goals first | exact HX.out | exact⟨by decide,by decide⟩
 have B7:Hid (Below w.heap.size w (v1.alloc (.cells #[.int .u32 7,.int .u32 x,.int .u32 9,.int .u32 305419896,.int .u32 2147483648,.int .u32 5,.int .u32 6,.int .u32 7] 28))):=B6.out.alloc B6.out.size _
 have L7:Hid _:=z0g v1 (.cells #[.int .u32 7,.int .u32 x,.int .u32 9,.int .u32 305419896,.int .u32 2147483648,.int .u32 5,.int .u32 6,.int .u32 7] 28)
 have c2:Below v1.heap.size v1 (v1.alloc (.cells #[.int .u32 7,.int .u32 x,.int .u32 9,.int .u32 305419896,.int .u32 2147483648,.int .u32 5,.int .u32 6,.int .u32 7] 28)):=(Below.refl _ _).alloc (Nat.le_refl _) _
 refine turn_at 2 (some 35) (v:=.slice (some ⟨v1.heap.size,0,none⟩) 8 8) (w':=v1.alloc (.cells #[.int .u32 7,.int .u32 x,.int .u32 9,.int .u32 305419896,.int .u32 2147483648,.int .u32 5,.int .u32 6,.int .u32 7] 28)) rfl rfl (by rfl) (by kernel_rfl) (by kernel_rfl) ⟨z0f R6.out c2,z0f I6.out c2,B7.out⟩ ?_
 simp only[Act.put,List.setIfInBounds_toArray,List.set_cons_zero,List.set_cons_succ]
 refine z5q 4 (some 37) 10 #[.slice (some ⟨v1.heap.size,0,none⟩) 8 8,.slice none 0 0,.agg (z0c g u),.int .i64 1] rfl rfl (by rfl) (by kernel_rfl) (by kernel_rfl) (Calls.mono (ksteps HK.out v1.heap.size 0 8 [7,x,9,305419896,2147483648,5,6,7] (.slice none 0 0) [] g u 1 _ (by simp) (by simp) HU.out (Array.getElem?_eq_some_iff.1 L7.out).1 HC.out (no_late _) (by decide) (fun i=>by simp) HO.out (by decide)) ?_)
 rintro e v2 ⟨rfl,c3⟩
 have B8:Hid _:=z0e B7.out c3
 have R8:Hid _:=z0f (z0f R6.out c2) c3
 have I8:Hid _:=z0f (z0f I6.out c2) c3
 clear HC HU B7 L7 c2 c3 R6 I6 B6
 refine⟨_,rfl,⟨R8.out,I8.out,B8.out⟩,fun hHeld=>?_⟩
 simp only[Act.put,List.setIfInBounds_toArray,List.set_cons_zero,List.set_cons_succ]
 refine z0n 5 (some 38) (v:=?_) rfl rfl (by kernel_rfl) (by kernel_rfl) (by kernel_rfl) (fun _ _ _ h=>h) (Or.inl ⟨by rfl,?_⟩) (by assumption) ?_
 rotate_left
 ·intro w' hSw
  go_simp
  try with_reducible rfl
 simp only[Act.put,List.setIfInBounds_toArray,List.set_cons_zero,List.set_cons_succ]
 refine z5q 6 (some 39) 9 #[] rfl rfl (by rfl) (by kernel_rfl) (by kernel_rfl) (Calls.mono (kawake6 HK.out _) ?_)
 rintro e v3 ⟨rfl,c4⟩
 have B9:Hid _:=z0e B8.out c4
 have R9:Hid _:=z0f R8.out c4
 have I9:Hid _:=z0f I8.out c4
 clear c4 R8 I8 B8
 refine⟨_,rfl,⟨R9.out,I9.out,B9.out⟩,fun hHeld=>?_⟩
 simp only[Act.put,List.setIfInBounds_toArray,List.set_cons_zero,List.set_cons_succ]
 refine z0n 7 (some 40) (v:=?_) rfl rfl (by kernel_rfl) (by kernel_rfl) (by kernel_rfl) (fun _ _ _ h=>h) (Or.inl ⟨by rfl,?_⟩) (by assumption) ?_
 rotate_left
 ·intro w' hSw
  go_simp
  try with_reducible rfl
 simp only[Act.put,List.setIfInBounds_toArray,List.set_cons_zero,List.set_cons_succ]
 refine z0n 8 (some 14) (v:=?_) rfl rfl (by kernel_rfl) (by kernel_rfl) (by kernel_rfl) (fun _ _ _ h=>h) (Or.inl ⟨by rfl,?_⟩) (by assumption) ?_
 rotate_left
 ·intro w' hSw
  go_simp
  try with_reducible rfl
 simp only[Act.put,List.setIfInBounds_toArray,List.set_cons_zero,List.set_cons_succ]
 refine wpAnyH_done (by kernel_rfl) ?_ _
 refine NoPanic.normal ?_
 go_wp2
 go_ret
 exact⟨rfl,B9.out⟩
theorem coreOne {Is:z6d} (K:CoreK Is) (wh d a b m:Int) (hwh:0≤wh∧wh≤255) (hd:0≤d∧d≤255) (ha:0≤a∧a≤255) (hb:0≤b∧b≤255) (hm:-2147483648≤m∧m≤2147483647) (a':Option Addr) (n' cap':Nat) (zs':List Int) (u:Bool) (w:World)
  (hz:(a'=none∧n'=0∧cap'=0∧zs'=[])∨∃ q,a'=some q∧n'≤cap'∧cap'≤maxLen∧zs'.length=cap'∧(∀ i,i<zs'.length→w.cell? (q.add i)=some (.int .u32 (zs'.getD i 0)))∧∀ z∈zs',(Lit.int .u32 z).wf=true) :
  Calls Tryz.prog 5 #[.int .u8 wh,.int .u8 d,.int .u8 a,.int .u8 b,.int .i32 m,.slice a' n' cap',.bool u] w fun e w'=>e=.returned (.bool true)∧Below w.heap.size w w':=by
 obtain⟨c,off,h1,h2,h3,h4⟩:=z9d hz
 exact coreOne_way K wh d a b m hwh hd ha hb hm a' n' cap' zs' u w c off h1 h2 h3 h4
end
end Go.Proofs.YthojokcmaodbpaaGreatDoor
