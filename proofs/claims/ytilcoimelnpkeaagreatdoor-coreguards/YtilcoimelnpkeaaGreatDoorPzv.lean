/-
  Contracts of functions that the statement reaches, and what they are made of, callees first.
-/
import Derived.Test.YtilcoimelnpkeaaGreatDoorPzs
set_option maxRecDepth 100000
set_option maxHeartbeats 8000000
namespace Go.Proofs.YtilcoimelnpkeaaGreatDoor
open Go.RowKit
theorem guards0 {Is:z6d} (K:CoreK Is) (lo n at' how x a b p fl:Int) (hlo:0≤lo∧lo≤255) (hn:0≤n∧n≤255) (hat:0≤at'∧at'≤255) (hh:0≤how∧how≤255) (hx:U32 x) (ea:lo%60*4=a) (eb:a+n%8*4=b) (ep:4+at'%62*4=p) (ef:how/4%4=fl) (th:how.tmod 3=0) (w:World) :
  Calls Tryz.prog 6 #[.int .u8 lo,.int .u8 n,.int .u8 at',.int .u8 how,.int .u32 x] w fun e w'=>e=.returned (.bool true)∧Below w.heap.size w w':=by
 have HK:Hid _:=K
 have t1:lo.tmod 60=lo%60:=Int.tmod_eq_emod_of_nonneg hlo.1
 have t2:n.tmod 8=n%8:=Int.tmod_eq_emod_of_nonneg hn.1
 have t3:at'.tmod 62=at'%62:=Int.tmod_eq_emod_of_nonneg hat.1
 have t4:how.tdiv 4=how/4:=Int.tdiv_eq_ediv_of_nonneg hh.1
 have t5:(how/4).tmod 4=how/4%4:=Int.tmod_eq_emod_of_nonneg (by omega)
 have ba:0≤a∧a≤236∧a%4=0:=by omega
 have bb:a≤b∧b≤264∧b%4=0:=by omega
 have bp:4≤p∧p<256∧p%4=0:=by omega
 have bf:0≤fl∧fl<4:=by omega
 have ho:bits .or .u32 b fl=b+fl:=z2w 2 (by decide) ⟨by omega,by omega⟩ bf.1 (by omega) (by omega)
 obtain⟨W,hW⟩:∃ W,W=putN (guardI 0):=⟨_,rfl⟩
 have hWu:U32 W:=by rw[hW];exact putN_u _
 have CW:Hid (∀ V:World,Calls Tryz.prog 12 #[.agg #[.string ⟨#[108,119]⟩,.int .i64 3,.int .i64 1,.int .i64 0,.int .i32 0]] V fun e w'=>e=.returned (.int .u32 W)∧Below V.heap.size V w'):=fun V=>by
  have:=kWord ⟨#[108,119]⟩ 3 1 0 0 V
  rw[ByteArray.toList_eq] at this
  rw[hW]
  exact this
 obtain⟨s,p1,hG⟩:=guard_lw (x:=x) ba.2.2 bb.2.2 bf ⟨bp.1,bp.2.1⟩ bp.2.2 hW
 have P1:Hid _:=p1
 have G:Hid _:=hG
 clear p1 hG
 have HF:Hid (∀ i,U32 (guardF p x a (b+fl) i)):=z4m (z4m (z4m (z4m (z4m (z4m (z4m (fun _=>(⟨by decide,by decide⟩:U32 0)) 36 ⟨by decide,by decide⟩) 1 ⟨by omega,by omega⟩) 2 hx) 41 ⟨by decide,by decide⟩) 42 ⟨by decide,by decide⟩) 43 ⟨by omega,by omega⟩) 44 ⟨by omega,by omega⟩
 have HU:Hid (∀ j,U32 (z0p (lone 0 W) j)):=lone_u 0 hWu
 have HW:Hid _:=hW
 have HX:Hid _:=hx
 have hq:=eqPtr2
 have hmk:∀ w,(Instr.makeSlice 22 (.int .i64 64) (.int .i64 64)).run Tryz.prog w=.ok (.slice (some ⟨w.heap.size,0,none⟩) 64 64) (w.alloc (.cells (wordsC (noughts 64)) 31)):=fun w=>by kernel_rfl
 obtain⟨fi,hfi⟩:=undIns
 have HFI:Hid _:=hfi
 have I0:Hid (((w.alloc (.cells (wordsC (noughts 64)) 31)).alloc (.cells #[.string ⟨#[108,119]⟩,.int .i64 3,.int .i64 1,.int .i64 0,.int .i32 0,.string ⟨#[115,119]⟩,.int .i64 0,.int .i64 1,.int .i64 2,.int .i32 0,.string ⟨#[106,97,108,114]⟩,.int .i64 4,.int .i64 1,.int .i64 0,.int .i32 0] 24)).heap[w.heap.size+1]?=some (.cells #[.string ⟨#[108,119]⟩,.int .i64 3,.int .i64 1,.int .i64 0,.int .i32 0,.string ⟨#[115,119]⟩,.int .i64 0,.int .i64 1,.int .i64 2,.int .i32 0,.string ⟨#[106,97,108,114]⟩,.int .i64 4,.int .i64 1,.int .i64 0,.int .i32 0] 24)):=by
  have:=z0g (w.alloc (.cells (wordsC (noughts 64)) 31)) (.cells #[.string ⟨#[108,119]⟩,.int .i64 3,.int .i64 1,.int .i64 0,.int .i32 0,.string ⟨#[115,119]⟩,.int .i64 0,.int .i64 1,.int .i64 2,.int .i32 0,.string ⟨#[106,97,108,114]⟩,.int .i64 4,.int .i64 1,.int .i64 0,.int .i32 0] 24)
  rw[World.size_alloc] at this
  exact this
 have A0:Hid (((w.alloc (.cells (wordsC (noughts 64)) 31)).alloc (.cells #[.string ⟨#[108,119]⟩,.int .i64 3,.int .i64 1,.int .i64 0,.int .i32 0,.string ⟨#[115,119]⟩,.int .i64 0,.int .i64 1,.int .i64 2,.int .i32 0,.string ⟨#[106,97,108,114]⟩,.int .i64 4,.int .i64 1,.int .i64 0,.int .i32 0] 24)).heap[w.heap.size]?=some (.cells (wordsC (noughts 64)) 31)):=z0m ((Below.refl _ _).alloc (Nat.le_refl _) _)
 have B0:Hid (Below w.heap.size w ((w.alloc (.cells (wordsC (noughts 64)) 31)).alloc (.cells #[.string ⟨#[108,119]⟩,.int .i64 3,.int .i64 1,.int .i64 0,.int .i32 0,.string ⟨#[115,119]⟩,.int .i64 0,.int .i64 1,.int .i64 2,.int .i32 0,.string ⟨#[106,97,108,114]⟩,.int .i64 4,.int .i64 1,.int .i64 0,.int .i32 0] 24))):=box2
 clear K hW hWu hx hfi
 go_enter Tryz.func6,Tryz.ntmps6
 go_wp2_with (first | (refine z0w (by rfl) 24 (.tmp 38) rfl (w.heap.size+1) 0 rfl #[.string ⟨#[108,119]⟩,.int .i64 3,.int .i64 1,.int .i64 0,.int .i32 0] _ (range_cut 5 I0.out rfl) HFI.out rfl infoIns ?_))
 refine (CW.out _).mono ?_
 rintro e w1 ⟨rfl,b1⟩
 have A1:=z0f A0.out b1
 have B1:Hid _:=z0e B0.out b1
 clear A0 I0 B0 b1 CW
 go_wp2_with (first | (refine wpList_store_word rfl rfl rfl rfl A1 (by decide) ?_;intro w2 A2 HO HL HS;have B2:Hid _:=HL w.heap.size w (Nat.le_refl _) B1.out;clear HO HL HS A1 B1))
 have hc:=words_cells A2
 have hb:=(Array.getElem?_eq_some_iff.1 A2).1
 refine Calls.mono (One.new HK.out w.heap.size 0 64 (lone 0 W) (.slice none 0 0) [] B2.out (by rw[lone_len];decide) (by rw[lone_len];decide) HU.out hb hc (no_late _) (by decide)) ?_
 rintro e w3 ⟨q,F3,rfl,o3,-,-⟩
 rw[lone_len] at o3
 have O3:Hid _:=o3
 clear hc hb A2 B2 o3
 go_wp2_with (first | (go_at_call 13;refine (zErr6 _ _).mono ?_;rintro e wq ⟨rfl,hwq⟩;rw[hwq];clear hwq wq) | (refine z4p rfl 37 (.tmp 16) (.tmp 54) rfl rfl (z0c (set1 (fun _=>0) 36 252) true) rfl 37 _ (by rw[z0b];exact z0o) (by rw[z8d,z0b,z0b]) (z0s _ _) ?_))
 intro w4 R4 b4
 obtain⟨fs,hfs⟩:=z3f
 have HS:Hid _:=hfs
 clear hfs
 go_wp2_with (first | (refine z0h rfl rfl rfl rfl (by assumption) (by decide) (by decide) ?_;intro wn Rn HO HL;have Bn:=HL w3.heap.size w3 (Nat.le_refl _) (by assumption);clear HO HL) | (refine z7d (by rfl) 37 (.tmp 16) rfl w3.heap.size rfl 37 (z0c (guardF p x a (b+fl)) true) _ (by assumption) HS.out rfl (by rw[z0b];exact z0o) ?_))
 have O5:Hid _:=O3.out.below HK.out Bn
 clear Bn Rn b4 R4 O3
 refine Calls.mono (One.put HK.out O5.out (guardF p x a (b+fl)) true HF.out) ?_
 rintro e w6 ⟨rfl,F6,o6,-,-⟩
 have O6:Hid (One Is w [] q 64 0 w6 F6 (begC (guardF p x a (b+fl)) true) (lone 0 W) []):=o6
 clear o6 O5
 go_wp2_with fail
 have st:=One.step HK.out O6.out (by decide) (by decide) (by decide) no_lates
 rw[P1.out] at st
 refine Calls.mono st ?_
 rintro e w7 ⟨rfl,F7,o7,-,-⟩
 have O7:Hid (One Is w [] q 64 1 w7 F7 s (lone 0 W) []):=o7
 clear o7 O6 st
 have HWD:Hid _:=fun (V:World) (F:Nat→Prop) (h:One Is w [] q 64 1 V F s (lone 0 W) [])=>h.word HK.out (p/4).toNat (by omega) (by decide) p (by omega)
 by_cases h1:a≤p
 ·by_cases h2:p+4≤b
  ·have HOK:okG a b fl p 0=true:=by unfold okG;simp[*]
   obtain⟨k32,ku,kw⟩:=G.out.lw HOK rfl
   have K32:Hid _:=k32
   have KU:Hid _:=ku
   clear k32 ku G
   clear HOK
   go_wp2_with fail
   refine Calls.mono (HK.out.regs O7.out.imp) ?_
   rintro e w8 ⟨rfl,b8⟩
   have O8:Hid _:=O7.out.below HK.out b8
   clear b8 O7
   go_wp2_with (first | (refine z4p rfl 37 (.tmp 23) (.tmp 137) rfl rfl (z0c _ _) rfl 37 _ (by rw[z0b];exact z0o) (by rw[z8d,z0b,z0b]) (z0s _ _) ?_))
   intro w9 R9 b9
   have O9:Hid _:=O8.out.below HK.out b9
   clear b9 O8
   generalize w8.heap.size=rb at *
   go_wp2_with fail
   have cw:=HWD.out _ _ O9.out
   rw[kw] at cw
   refine Calls.mono cw ?_
   rintro e w10 ⟨rfl,b10⟩
   have O10:Hid _:=O9.out.below HK.out b10
   have R10:=z0f R9 b10
   clear b10 O9 R9 cw kw HWD
   go_wp2_with (first | (go_at_call 13;refine (zErr6 _ _).mono ?_;rintro e wq ⟨rfl,hwq⟩;rw[hwq];clear hwq wq) | (refine wpList_load_reg_is (i:=32) (by rfl) rfl rfl R10 (by omega) (by omega) K32.out ?_) | (refine wpList_user_is (by rfl) rfl rfl R10 KU.out ?_))
   refine Calls.mono (kawake6 HK.out _) ?_
   rintro e w12 ⟨rfl,b12⟩
   have O12:Hid _:=O10.out.below HK.out b12
   go_wp2
   go_ret
   exact⟨rfl,O12.out.bel⟩
  ·have HOK:okG a b fl p 0=false:=by unfold okG;simp[*]
   obtain⟨k32,ku,k39,k40,kw,k3⟩:=G.out.no HOK
   have K32:Hid _:=k32
   have KU:Hid _:=ku
   have K39:Hid (s.f 39=5):=k39
   have K40:Hid _:=k40
   have K3:Hid _:=k3
   clear k32 ku k39 k40 k3 G
   clear HOK
   go_wp2_with fail
   refine Calls.mono (HK.out.regs O7.out.imp) ?_
   rintro e w8 ⟨rfl,b8⟩
   have O8:Hid _:=O7.out.below HK.out b8
   clear b8 O7
   go_wp2_with (first | (refine z4p rfl 37 (.tmp 23) (.tmp 137) rfl rfl (z0c _ _) rfl 37 _ (by rw[z0b];exact z0o) (by rw[z8d,z0b,z0b]) (z0s _ _) ?_))
   intro w9 R9 b9
   have O9:Hid _:=O8.out.below HK.out b9
   clear b9 O8
   generalize w8.heap.size=rb at *
   go_wp2_with fail
   have cw:=HWD.out _ _ O9.out
   rw[kw] at cw
   refine Calls.mono cw ?_
   rintro e w10 ⟨rfl,b10⟩
   have O10:Hid _:=O9.out.below HK.out b10
   have R10:=z0f R9 b10
   clear b10 O9 R9 cw kw HWD
   have CA:Hid (Below w10.heap.size w10 (w10.alloc (.cells #[.int .u32 5,.int .u32 7,.int .u32 1] 31))):=(Below.refl _ _).alloc (Nat.le_refl _) _
   have R11:Hid _:=z0f R10 CA.out
   have O11:Hid _:=O10.out.below HK.out CA.out
   clear R10 O10 CA
   go_wp2_with (first | (go_at_call 13;refine (zErr6 _ _).mono ?_;rintro e wq ⟨rfl,hwq⟩;rw[hwq];clear hwq wq) | (refine z8k (v:=.int .u32 5) rfl rfl rfl (z0g _ _) rfl ?_) | (refine wpList_load_reg_is (i:=32) (by rfl) rfl rfl R11.out (by omega) (by omega) K32.out ?_) | (refine wpList_load_reg_is (i:=39) (by rfl) rfl rfl R11.out (by omega) (by omega) K39.out ?_) | (refine wpList_load_reg_is (i:=40) (by rfl) rfl rfl R11.out (by omega) (by omega) K40.out ?_) | (refine wpList_load_reg_is (i:=3) (by rfl) rfl rfl R11.out (by omega) (by omega) K3.out ?_) | (refine wpList_user_is (by rfl) rfl rfl R11.out KU.out ?_))
   refine Calls.mono (kawake6 HK.out _) ?_
   rintro e w12 ⟨rfl,b12⟩
   have O12:Hid _:=O11.out.below HK.out b12
   go_wp2
   go_ret
   exact⟨rfl,O12.out.bel⟩
 ·have HOK:okG a b fl p 0=false:=by unfold okG;simp[*]
  obtain⟨k32,ku,k39,k40,kw,k3⟩:=G.out.no HOK
  have K32:Hid _:=k32
  have KU:Hid _:=ku
  have K39:Hid (s.f 39=5):=k39
  have K40:Hid _:=k40
  have K3:Hid _:=k3
  clear k32 ku k39 k40 k3 G
  clear HOK
  go_wp2_with fail
  refine Calls.mono (HK.out.regs O7.out.imp) ?_
  rintro e w8 ⟨rfl,b8⟩
  have O8:Hid _:=O7.out.below HK.out b8
  clear b8 O7
  go_wp2_with (first | (refine z4p rfl 37 (.tmp 23) (.tmp 137) rfl rfl (z0c _ _) rfl 37 _ (by rw[z0b];exact z0o) (by rw[z8d,z0b,z0b]) (z0s _ _) ?_))
  intro w9 R9 b9
  have O9:Hid _:=O8.out.below HK.out b9
  clear b9 O8
  generalize w8.heap.size=rb at *
  go_wp2_with fail
  have cw:=HWD.out _ _ O9.out
  rw[kw] at cw
  refine Calls.mono cw ?_
  rintro e w10 ⟨rfl,b10⟩
  have O10:Hid _:=O9.out.below HK.out b10
  have R10:=z0f R9 b10
  clear b10 O9 R9 cw kw HWD
  have CA:Hid (Below w10.heap.size w10 (w10.alloc (.cells #[.int .u32 5,.int .u32 7,.int .u32 1] 31))):=(Below.refl _ _).alloc (Nat.le_refl _) _
  have R11:Hid _:=z0f R10 CA.out
  have O11:Hid _:=O10.out.below HK.out CA.out
  clear R10 O10 CA
  go_wp2_with (first | (go_at_call 13;refine (zErr6 _ _).mono ?_;rintro e wq ⟨rfl,hwq⟩;rw[hwq];clear hwq wq) | (refine z8k (v:=.int .u32 5) rfl rfl rfl (z0g _ _) rfl ?_) | (refine wpList_load_reg_is (i:=32) (by rfl) rfl rfl R11.out (by omega) (by omega) K32.out ?_) | (refine wpList_load_reg_is (i:=39) (by rfl) rfl rfl R11.out (by omega) (by omega) K39.out ?_) | (refine wpList_load_reg_is (i:=40) (by rfl) rfl rfl R11.out (by omega) (by omega) K40.out ?_) | (refine wpList_load_reg_is (i:=3) (by rfl) rfl rfl R11.out (by omega) (by omega) K3.out ?_) | (refine wpList_user_is (by rfl) rfl rfl R11.out KU.out ?_))
  refine Calls.mono (kawake6 HK.out _) ?_
  rintro e w12 ⟨rfl,b12⟩
  have O12:Hid _:=O11.out.below HK.out b12
  go_wp2
  go_ret
  exact⟨rfl,O12.out.bel⟩
theorem guards1 {Is:z6d} (K:CoreK Is) (lo n at' how x a b p fl:Int) (hlo:0≤lo∧lo≤255) (hn:0≤n∧n≤255) (hat:0≤at'∧at'≤255) (hh:0≤how∧how≤255) (hx:U32 x) (ea:lo%60*4=a) (eb:a+n%8*4=b) (ep:4+at'%62*4=p) (ef:how/4%4=fl) (th:how.tmod 3=1) (w:World) :
  Calls Tryz.prog 6 #[.int .u8 lo,.int .u8 n,.int .u8 at',.int .u8 how,.int .u32 x] w fun e w'=>e=.returned (.bool true)∧Below w.heap.size w w':=by
 have HK:Hid _:=K
 have t1:lo.tmod 60=lo%60:=Int.tmod_eq_emod_of_nonneg hlo.1
 have t2:n.tmod 8=n%8:=Int.tmod_eq_emod_of_nonneg hn.1
 have t3:at'.tmod 62=at'%62:=Int.tmod_eq_emod_of_nonneg hat.1
 have t4:how.tdiv 4=how/4:=Int.tdiv_eq_ediv_of_nonneg hh.1
 have t5:(how/4).tmod 4=how/4%4:=Int.tmod_eq_emod_of_nonneg (by omega)
 have ba:0≤a∧a≤236∧a%4=0:=by omega
 have bb:a≤b∧b≤264∧b%4=0:=by omega
 have bp:4≤p∧p<256∧p%4=0:=by omega
 have bf:0≤fl∧fl<4:=by omega
 have ho:bits .or .u32 b fl=b+fl:=z2w 2 (by decide) ⟨by omega,by omega⟩ bf.1 (by omega) (by omega)
 obtain⟨W,hW⟩:∃ W,W=putN (guardI 1):=⟨_,rfl⟩
 have hWu:U32 W:=by rw[hW];exact putN_u _
 have CW:Hid (∀ V:World,Calls Tryz.prog 12 #[.agg #[.string ⟨#[115,119]⟩,.int .i64 0,.int .i64 1,.int .i64 2,.int .i32 0]] V fun e w'=>e=.returned (.int .u32 W)∧Below V.heap.size V w'):=fun V=>by
  have:=kWord ⟨#[115,119]⟩ 0 1 2 0 V
  rw[ByteArray.toList_eq] at this
  rw[hW]
  exact this
 obtain⟨s,L,p1,hL,-,hG⟩:=guard_sw (x:=x) ba.2.2 bb.2.2 bf ⟨bp.1,bp.2.1⟩ bp.2.2 hx hW
 have P1:Hid _:=p1
 have G:Hid _:=hG
 clear p1 hG hL
 have HF:Hid (∀ i,U32 (guardF p x a (b+fl) i)):=z4m (z4m (z4m (z4m (z4m (z4m (z4m (fun _=>(⟨by decide,by decide⟩:U32 0)) 36 ⟨by decide,by decide⟩) 1 ⟨by omega,by omega⟩) 2 hx) 41 ⟨by decide,by decide⟩) 42 ⟨by decide,by decide⟩) 43 ⟨by omega,by omega⟩) 44 ⟨by omega,by omega⟩
 have HU:Hid (∀ j,U32 (z0p (lone 0 W) j)):=lone_u 0 hWu
 have HW:Hid _:=hW
 have HX:Hid _:=hx
 have hq:=eqPtr2
 have hmk:∀ w,(Instr.makeSlice 22 (.int .i64 64) (.int .i64 64)).run Tryz.prog w=.ok (.slice (some ⟨w.heap.size,0,none⟩) 64 64) (w.alloc (.cells (wordsC (noughts 64)) 31)):=fun w=>by kernel_rfl
 obtain⟨fi,hfi⟩:=undIns
 have HFI:Hid _:=hfi
 have I0:Hid (((w.alloc (.cells (wordsC (noughts 64)) 31)).alloc (.cells #[.string ⟨#[108,119]⟩,.int .i64 3,.int .i64 1,.int .i64 0,.int .i32 0,.string ⟨#[115,119]⟩,.int .i64 0,.int .i64 1,.int .i64 2,.int .i32 0,.string ⟨#[106,97,108,114]⟩,.int .i64 4,.int .i64 1,.int .i64 0,.int .i32 0] 24)).heap[w.heap.size+1]?=some (.cells #[.string ⟨#[108,119]⟩,.int .i64 3,.int .i64 1,.int .i64 0,.int .i32 0,.string ⟨#[115,119]⟩,.int .i64 0,.int .i64 1,.int .i64 2,.int .i32 0,.string ⟨#[106,97,108,114]⟩,.int .i64 4,.int .i64 1,.int .i64 0,.int .i32 0] 24)):=by
  have:=z0g (w.alloc (.cells (wordsC (noughts 64)) 31)) (.cells #[.string ⟨#[108,119]⟩,.int .i64 3,.int .i64 1,.int .i64 0,.int .i32 0,.string ⟨#[115,119]⟩,.int .i64 0,.int .i64 1,.int .i64 2,.int .i32 0,.string ⟨#[106,97,108,114]⟩,.int .i64 4,.int .i64 1,.int .i64 0,.int .i32 0] 24)
  rw[World.size_alloc] at this
  exact this
 have A0:Hid (((w.alloc (.cells (wordsC (noughts 64)) 31)).alloc (.cells #[.string ⟨#[108,119]⟩,.int .i64 3,.int .i64 1,.int .i64 0,.int .i32 0,.string ⟨#[115,119]⟩,.int .i64 0,.int .i64 1,.int .i64 2,.int .i32 0,.string ⟨#[106,97,108,114]⟩,.int .i64 4,.int .i64 1,.int .i64 0,.int .i32 0] 24)).heap[w.heap.size]?=some (.cells (wordsC (noughts 64)) 31)):=z0m ((Below.refl _ _).alloc (Nat.le_refl _) _)
 have B0:Hid (Below w.heap.size w ((w.alloc (.cells (wordsC (noughts 64)) 31)).alloc (.cells #[.string ⟨#[108,119]⟩,.int .i64 3,.int .i64 1,.int .i64 0,.int .i32 0,.string ⟨#[115,119]⟩,.int .i64 0,.int .i64 1,.int .i64 2,.int .i32 0,.string ⟨#[106,97,108,114]⟩,.int .i64 4,.int .i64 1,.int .i64 0,.int .i32 0] 24))):=box2
 clear K hW hWu hx hfi
 go_enter Tryz.func6,Tryz.ntmps6
 go_wp2_with (first | (refine z0w (by rfl) 24 (.tmp 38) rfl (w.heap.size+1) 5 rfl #[.string ⟨#[115,119]⟩,.int .i64 0,.int .i64 1,.int .i64 2,.int .i32 0] _ (range_cut 5 I0.out rfl) HFI.out rfl infoIns ?_))
 refine (CW.out _).mono ?_
 rintro e w1 ⟨rfl,b1⟩
 have A1:=z0f A0.out b1
 have B1:Hid _:=z0e B0.out b1
 clear A0 I0 B0 b1 CW
 go_wp2_with (first | (refine wpList_store_word rfl rfl rfl rfl A1 (by decide) ?_;intro w2 A2 HO HL HS;have B2:Hid _:=HL w.heap.size w (Nat.le_refl _) B1.out;clear HO HL HS A1 B1))
 have hc:=words_cells A2
 have hb:=(Array.getElem?_eq_some_iff.1 A2).1
 refine Calls.mono (One.new HK.out w.heap.size 0 64 (lone 0 W) (.slice none 0 0) [] B2.out (by rw[lone_len];decide) (by rw[lone_len];decide) HU.out hb hc (no_late _) (by decide)) ?_
 rintro e w3 ⟨q,F3,rfl,o3,-,-⟩
 rw[lone_len] at o3
 have O3:Hid _:=o3
 clear hc hb A2 B2 o3
 go_wp2_with (first | (go_at_call 13;refine (zErr6 _ _).mono ?_;rintro e wq ⟨rfl,hwq⟩;rw[hwq];clear hwq wq) | (refine z4p rfl 37 (.tmp 16) (.tmp 54) rfl rfl (z0c (set1 (fun _=>0) 36 252) true) rfl 37 _ (by rw[z0b];exact z0o) (by rw[z8d,z0b,z0b]) (z0s _ _) ?_))
 intro w4 R4 b4
 obtain⟨fs,hfs⟩:=z3f
 have HS:Hid _:=hfs
 clear hfs
 go_wp2_with (first | (refine z0h rfl rfl rfl rfl (by assumption) (by decide) (by decide) ?_;intro wn Rn HO HL;have Bn:=HL w3.heap.size w3 (Nat.le_refl _) (by assumption);clear HO HL) | (refine z7d (by rfl) 37 (.tmp 16) rfl w3.heap.size rfl 37 (z0c (guardF p x a (b+fl)) true) _ (by assumption) HS.out rfl (by rw[z0b];exact z0o) ?_))
 have O5:Hid _:=O3.out.below HK.out Bn
 clear Bn Rn b4 R4 O3
 refine Calls.mono (One.put HK.out O5.out (guardF p x a (b+fl)) true HF.out) ?_
 rintro e w6 ⟨rfl,F6,o6,-,-⟩
 have O6:Hid (One Is w [] q 64 0 w6 F6 (begC (guardF p x a (b+fl)) true) (lone 0 W) []):=o6
 clear o6 O5
 go_wp2_with fail
 have st:=One.step HK.out O6.out (by decide) (by decide) (by decide) no_lates
 rw[P1.out] at st
 refine Calls.mono st ?_
 rintro e w7 ⟨rfl,F7,o7,-,-⟩
 have O7:Hid (One Is w [] q 64 1 w7 F7 s L []):=o7
 clear o7 O6 st
 have HWD:Hid _:=fun (V:World) (F:Nat→Prop) (h:One Is w [] q 64 1 V F s L [])=>h.word HK.out (p/4).toNat (by omega) (by decide) p (by omega)
 by_cases h1:a≤p
 ·by_cases h2:p+4≤b
  ·by_cases h3:fl/2=1
   ·have HOK:okG a b fl p 1=true:=by unfold okG;simp[*]
    obtain⟨k32,ku,kw⟩:=G.out.sw HOK rfl
    have K32:Hid _:=k32
    have KU:Hid _:=ku
    clear k32 ku G
    clear HOK
    go_wp2_with fail
    refine Calls.mono (HK.out.regs O7.out.imp) ?_
    rintro e w8 ⟨rfl,b8⟩
    have O8:Hid _:=O7.out.below HK.out b8
    clear b8 O7
    go_wp2_with (first | (refine z4p rfl 37 (.tmp 23) (.tmp 137) rfl rfl (z0c _ _) rfl 37 _ (by rw[z0b];exact z0o) (by rw[z8d,z0b,z0b]) (z0s _ _) ?_))
    intro w9 R9 b9
    have O9:Hid _:=O8.out.below HK.out b9
    clear b9 O8
    generalize w8.heap.size=rb at *
    go_wp2_with fail
    have cw:=HWD.out _ _ O9.out
    rw[kw] at cw
    refine Calls.mono cw ?_
    rintro e w10 ⟨rfl,b10⟩
    have O10:Hid _:=O9.out.below HK.out b10
    have R10:=z0f R9 b10
    clear b10 O9 R9 cw kw HWD
    go_wp2_with (first | (go_at_call 13;refine (zErr6 _ _).mono ?_;rintro e wq ⟨rfl,hwq⟩;rw[hwq];clear hwq wq) | (refine wpList_load_reg_is (i:=32) (by rfl) rfl rfl R10 (by omega) (by omega) K32.out ?_) | (refine wpList_user_is (by rfl) rfl rfl R10 KU.out ?_))
    refine Calls.mono (kawake6 HK.out _) ?_
    rintro e w12 ⟨rfl,b12⟩
    have O12:Hid _:=O10.out.below HK.out b12
    go_wp2
    go_ret
    exact⟨rfl,O12.out.bel⟩
   ·have h3b:(fl/2==1)=false:=by simp[h3]
    have HOK:okG a b fl p 1=false:=by unfold okG;simp[*]
    obtain⟨k32,ku,k39,k40,kw,k3⟩:=G.out.no HOK
    have K32:Hid _:=k32
    have KU:Hid _:=ku
    have K39:Hid (s.f 39=7):=k39
    have K40:Hid _:=k40
    have K3:Hid _:=k3
    clear k32 ku k39 k40 k3 G
    clear HOK
    go_wp2_with fail
    refine Calls.mono (HK.out.regs O7.out.imp) ?_
    rintro e w8 ⟨rfl,b8⟩
    have O8:Hid _:=O7.out.below HK.out b8
    clear b8 O7
    go_wp2_with (first | (refine z4p rfl 37 (.tmp 23) (.tmp 137) rfl rfl (z0c _ _) rfl 37 _ (by rw[z0b];exact z0o) (by rw[z8d,z0b,z0b]) (z0s _ _) ?_))
    intro w9 R9 b9
    have O9:Hid _:=O8.out.below HK.out b9
    clear b9 O8
    generalize w8.heap.size=rb at *
    go_wp2_with fail
    have cw:=HWD.out _ _ O9.out
    rw[kw] at cw
    refine Calls.mono cw ?_
    rintro e w10 ⟨rfl,b10⟩
    have O10:Hid _:=O9.out.below HK.out b10
    have R10:=z0f R9 b10
    clear b10 O9 R9 cw kw HWD
    have CA:Hid (Below w10.heap.size w10 (w10.alloc (.cells #[.int .u32 5,.int .u32 7,.int .u32 1] 31))):=(Below.refl _ _).alloc (Nat.le_refl _) _
    have R11:Hid _:=z0f R10 CA.out
    have O11:Hid _:=O10.out.below HK.out CA.out
    clear R10 O10 CA
    go_wp2_with (first | (go_at_call 13;refine (zErr6 _ _).mono ?_;rintro e wq ⟨rfl,hwq⟩;rw[hwq];clear hwq wq) | (refine z8k (v:=.int .u32 7) rfl rfl rfl (z0g _ _) rfl ?_) | (refine wpList_load_reg_is (i:=32) (by rfl) rfl rfl R11.out (by omega) (by omega) K32.out ?_) | (refine wpList_load_reg_is (i:=39) (by rfl) rfl rfl R11.out (by omega) (by omega) K39.out ?_) | (refine wpList_load_reg_is (i:=40) (by rfl) rfl rfl R11.out (by omega) (by omega) K40.out ?_) | (refine wpList_load_reg_is (i:=3) (by rfl) rfl rfl R11.out (by omega) (by omega) K3.out ?_) | (refine wpList_user_is (by rfl) rfl rfl R11.out KU.out ?_))
    refine Calls.mono (kawake6 HK.out _) ?_
    rintro e w12 ⟨rfl,b12⟩
    have O12:Hid _:=O11.out.below HK.out b12
    go_wp2
    go_ret
    exact⟨rfl,O12.out.bel⟩
  ·have HOK:okG a b fl p 1=false:=by unfold okG;simp[*]
   obtain⟨k32,ku,k39,k40,kw,k3⟩:=G.out.no HOK
   have K32:Hid _:=k32
   have KU:Hid _:=ku
   have K39:Hid (s.f 39=7):=k39
   have K40:Hid _:=k40
   have K3:Hid _:=k3
   clear k32 ku k39 k40 k3 G
   clear HOK
   go_wp2_with fail
   refine Calls.mono (HK.out.regs O7.out.imp) ?_
   rintro e w8 ⟨rfl,b8⟩
   have O8:Hid _:=O7.out.below HK.out b8
   clear b8 O7
   go_wp2_with (first | (refine z4p rfl 37 (.tmp 23) (.tmp 137) rfl rfl (z0c _ _) rfl 37 _ (by rw[z0b];exact z0o) (by rw[z8d,z0b,z0b]) (z0s _ _) ?_))
   intro w9 R9 b9
   have O9:Hid _:=O8.out.below HK.out b9
   clear b9 O8
   generalize w8.heap.size=rb at *
   go_wp2_with fail
   have cw:=HWD.out _ _ O9.out
   rw[kw] at cw
   refine Calls.mono cw ?_
   rintro e w10 ⟨rfl,b10⟩
   have O10:Hid _:=O9.out.below HK.out b10
   have R10:=z0f R9 b10
   clear b10 O9 R9 cw kw HWD
   have CA:Hid (Below w10.heap.size w10 (w10.alloc (.cells #[.int .u32 5,.int .u32 7,.int .u32 1] 31))):=(Below.refl _ _).alloc (Nat.le_refl _) _
   have R11:Hid _:=z0f R10 CA.out
   have O11:Hid _:=O10.out.below HK.out CA.out
   clear R10 O10 CA
   go_wp2_with (first | (go_at_call 13;refine (zErr6 _ _).mono ?_;rintro e wq ⟨rfl,hwq⟩;rw[hwq];clear hwq wq) | (refine z8k (v:=.int .u32 7) rfl rfl rfl (z0g _ _) rfl ?_) | (refine wpList_load_reg_is (i:=32) (by rfl) rfl rfl R11.out (by omega) (by omega) K32.out ?_) | (refine wpList_load_reg_is (i:=39) (by rfl) rfl rfl R11.out (by omega) (by omega) K39.out ?_) | (refine wpList_load_reg_is (i:=40) (by rfl) rfl rfl R11.out (by omega) (by omega) K40.out ?_) | (refine wpList_load_reg_is (i:=3) (by rfl) rfl rfl R11.out (by omega) (by omega) K3.out ?_) | (refine wpList_user_is (by rfl) rfl rfl R11.out KU.out ?_))
   refine Calls.mono (kawake6 HK.out _) ?_
   rintro e w12 ⟨rfl,b12⟩
   have O12:Hid _:=O11.out.below HK.out b12
   go_wp2
   go_ret
   exact⟨rfl,O12.out.bel⟩
 ·have HOK:okG a b fl p 1=false:=by unfold okG;simp[*]
  obtain⟨k32,ku,k39,k40,kw,k3⟩:=G.out.no HOK
  have K32:Hid _:=k32
  have KU:Hid _:=ku
  have K39:Hid (s.f 39=7):=k39
  have K40:Hid _:=k40
  have K3:Hid _:=k3
  clear k32 ku k39 k40 k3 G
  clear HOK
  go_wp2_with fail
  refine Calls.mono (HK.out.regs O7.out.imp) ?_
  rintro e w8 ⟨rfl,b8⟩
  have O8:Hid _:=O7.out.below HK.out b8
  clear b8 O7
  go_wp2_with (first | (refine z4p rfl 37 (.tmp 23) (.tmp 137) rfl rfl (z0c _ _) rfl 37 _ (by rw[z0b];exact z0o) (by rw[z8d,z0b,z0b]) (z0s _ _) ?_))
  intro w9 R9 b9
  have O9:Hid _:=O8.out.below HK.out b9
  clear b9 O8
  generalize w8.heap.size=rb at *
  go_wp2_with fail
  have cw:=HWD.out _ _ O9.out
  rw[kw] at cw
  refine Calls.mono cw ?_
  rintro e w10 ⟨rfl,b10⟩
  have O10:Hid _:=O9.out.below HK.out b10
  have R10:=z0f R9 b10
  clear b10 O9 R9 cw kw HWD
  have CA:Hid (Below w10.heap.size w10 (w10.alloc (.cells #[.int .u32 5,.int .u32 7,.int .u32 1] 31))):=(Below.refl _ _).alloc (Nat.le_refl _) _
  have R11:Hid _:=z0f R10 CA.out
  have O11:Hid _:=O10.out.below HK.out CA.out
  clear R10 O10 CA
  go_wp2_with (first | (go_at_call 13;refine (zErr6 _ _).mono ?_;rintro e wq ⟨rfl,hwq⟩;rw[hwq];clear hwq wq) | (refine z8k (v:=.int .u32 7) rfl rfl rfl (z0g _ _) rfl ?_) | (refine wpList_load_reg_is (i:=32) (by rfl) rfl rfl R11.out (by omega) (by omega) K32.out ?_) | (refine wpList_load_reg_is (i:=39) (by rfl) rfl rfl R11.out (by omega) (by omega) K39.out ?_) | (refine wpList_load_reg_is (i:=40) (by rfl) rfl rfl R11.out (by omega) (by omega) K40.out ?_) | (refine wpList_load_reg_is (i:=3) (by rfl) rfl rfl R11.out (by omega) (by omega) K3.out ?_) | (refine wpList_user_is (by rfl) rfl rfl R11.out KU.out ?_))
  refine Calls.mono (kawake6 HK.out _) ?_
  rintro e w12 ⟨rfl,b12⟩
  have O12:Hid _:=O11.out.below HK.out b12
  go_wp2
  go_ret
  exact⟨rfl,O12.out.bel⟩
theorem guards2 {Is:z6d} (K:CoreK Is) (lo n at' how x a b p fl:Int) (hlo:0≤lo∧lo≤255) (hn:0≤n∧n≤255) (hat:0≤at'∧at'≤255) (hh:0≤how∧how≤255) (hx:U32 x) (ea:lo%60*4=a) (eb:a+n%8*4=b) (ep:4+at'%62*4=p) (ef:how/4%4=fl) (th:how.tmod 3=2) (w:World) :
  Calls Tryz.prog 6 #[.int .u8 lo,.int .u8 n,.int .u8 at',.int .u8 how,.int .u32 x] w fun e w'=>e=.returned (.bool true)∧Below w.heap.size w w':=by
 have HK:Hid _:=K
 have t1:lo.tmod 60=lo%60:=Int.tmod_eq_emod_of_nonneg hlo.1
 have t2:n.tmod 8=n%8:=Int.tmod_eq_emod_of_nonneg hn.1
 have t3:at'.tmod 62=at'%62:=Int.tmod_eq_emod_of_nonneg hat.1
 have t4:how.tdiv 4=how/4:=Int.tdiv_eq_ediv_of_nonneg hh.1
 have t5:(how/4).tmod 4=how/4%4:=Int.tmod_eq_emod_of_nonneg (by omega)
 have ba:0≤a∧a≤236∧a%4=0:=by omega
 have bb:a≤b∧b≤264∧b%4=0:=by omega
 have bp:4≤p∧p<256∧p%4=0:=by omega
 have bf:0≤fl∧fl<4:=by omega
 have ho:bits .or .u32 b fl=b+fl:=z2w 2 (by decide) ⟨by omega,by omega⟩ bf.1 (by omega) (by omega)
 obtain⟨W,hW⟩:∃ W,W=putN (guardI 2):=⟨_,rfl⟩
 have hWu:U32 W:=by rw[hW];exact putN_u _
 have CW:Hid (∀ V:World,Calls Tryz.prog 12 #[.agg #[.string ⟨#[106,97,108,114]⟩,.int .i64 4,.int .i64 1,.int .i64 0,.int .i32 0]] V fun e w'=>e=.returned (.int .u32 W)∧Below V.heap.size V w'):=fun V=>by
  have:=kWord ⟨#[106,97,108,114]⟩ 4 1 0 0 V
  rw[ByteArray.toList_eq] at this
  rw[hW]
  exact this
 obtain⟨s1,s,p1,hs1,p2,hG⟩:=guard_go (x:=x) ba.2.2 bb.2.2 bf ⟨bp.1,bp.2.1⟩ bp.2.2 hW
 have P1:Hid _:=p1
 have P2:Hid _:=p2
 have HS1:Hid _:=hs1
 have G:Hid _:=hG
 clear p1 hG p2 hs1
 have HF:Hid (∀ i,U32 (guardF p x a (b+fl) i)):=z4m (z4m (z4m (z4m (z4m (z4m (z4m (fun _=>(⟨by decide,by decide⟩:U32 0)) 36 ⟨by decide,by decide⟩) 1 ⟨by omega,by omega⟩) 2 hx) 41 ⟨by decide,by decide⟩) 42 ⟨by decide,by decide⟩) 43 ⟨by omega,by omega⟩) 44 ⟨by omega,by omega⟩
 have HU:Hid (∀ j,U32 (z0p (lone 0 W) j)):=lone_u 0 hWu
 have HW:Hid _:=hW
 have HX:Hid _:=hx
 have hq:=eqPtr2
 have hmk:∀ w,(Instr.makeSlice 22 (.int .i64 64) (.int .i64 64)).run Tryz.prog w=.ok (.slice (some ⟨w.heap.size,0,none⟩) 64 64) (w.alloc (.cells (wordsC (noughts 64)) 31)):=fun w=>by kernel_rfl
 obtain⟨fi,hfi⟩:=undIns
 have HFI:Hid _:=hfi
 have I0:Hid (((w.alloc (.cells (wordsC (noughts 64)) 31)).alloc (.cells #[.string ⟨#[108,119]⟩,.int .i64 3,.int .i64 1,.int .i64 0,.int .i32 0,.string ⟨#[115,119]⟩,.int .i64 0,.int .i64 1,.int .i64 2,.int .i32 0,.string ⟨#[106,97,108,114]⟩,.int .i64 4,.int .i64 1,.int .i64 0,.int .i32 0] 24)).heap[w.heap.size+1]?=some (.cells #[.string ⟨#[108,119]⟩,.int .i64 3,.int .i64 1,.int .i64 0,.int .i32 0,.string ⟨#[115,119]⟩,.int .i64 0,.int .i64 1,.int .i64 2,.int .i32 0,.string ⟨#[106,97,108,114]⟩,.int .i64 4,.int .i64 1,.int .i64 0,.int .i32 0] 24)):=by
  have:=z0g (w.alloc (.cells (wordsC (noughts 64)) 31)) (.cells #[.string ⟨#[108,119]⟩,.int .i64 3,.int .i64 1,.int .i64 0,.int .i32 0,.string ⟨#[115,119]⟩,.int .i64 0,.int .i64 1,.int .i64 2,.int .i32 0,.string ⟨#[106,97,108,114]⟩,.int .i64 4,.int .i64 1,.int .i64 0,.int .i32 0] 24)
  rw[World.size_alloc] at this
  exact this
 have A0:Hid (((w.alloc (.cells (wordsC (noughts 64)) 31)).alloc (.cells #[.string ⟨#[108,119]⟩,.int .i64 3,.int .i64 1,.int .i64 0,.int .i32 0,.string ⟨#[115,119]⟩,.int .i64 0,.int .i64 1,.int .i64 2,.int .i32 0,.string ⟨#[106,97,108,114]⟩,.int .i64 4,.int .i64 1,.int .i64 0,.int .i32 0] 24)).heap[w.heap.size]?=some (.cells (wordsC (noughts 64)) 31)):=z0m ((Below.refl _ _).alloc (Nat.le_refl _) _)
 have B0:Hid (Below w.heap.size w ((w.alloc (.cells (wordsC (noughts 64)) 31)).alloc (.cells #[.string ⟨#[108,119]⟩,.int .i64 3,.int .i64 1,.int .i64 0,.int .i32 0,.string ⟨#[115,119]⟩,.int .i64 0,.int .i64 1,.int .i64 2,.int .i32 0,.string ⟨#[106,97,108,114]⟩,.int .i64 4,.int .i64 1,.int .i64 0,.int .i32 0] 24))):=box2
 clear K hW hWu hx hfi
 go_enter Tryz.func6,Tryz.ntmps6
 go_wp2_with (first | (refine z0w (by rfl) 24 (.tmp 38) rfl (w.heap.size+1) 10 rfl #[.string ⟨#[106,97,108,114]⟩,.int .i64 4,.int .i64 1,.int .i64 0,.int .i32 0] _ (range_cut 5 I0.out rfl) HFI.out rfl infoIns ?_))
 refine (CW.out _).mono ?_
 rintro e w1 ⟨rfl,b1⟩
 have A1:=z0f A0.out b1
 have B1:Hid _:=z0e B0.out b1
 clear A0 I0 B0 b1 CW
 go_wp2_with (first | (refine wpList_store_word rfl rfl rfl rfl A1 (by decide) ?_;intro w2 A2 HO HL HS;have B2:Hid _:=HL w.heap.size w (Nat.le_refl _) B1.out;clear HO HL HS A1 B1))
 have hc:=words_cells A2
 have hb:=(Array.getElem?_eq_some_iff.1 A2).1
 refine Calls.mono (One.new HK.out w.heap.size 0 64 (lone 0 W) (.slice none 0 0) [] B2.out (by rw[lone_len];decide) (by rw[lone_len];decide) HU.out hb hc (no_late _) (by decide)) ?_
 rintro e w3 ⟨q,F3,rfl,o3,-,-⟩
 rw[lone_len] at o3
 have O3:Hid _:=o3
 clear hc hb A2 B2 o3
 go_wp2_with (first | (go_at_call 13;refine (zErr6 _ _).mono ?_;rintro e wq ⟨rfl,hwq⟩;rw[hwq];clear hwq wq) | (refine z4p rfl 37 (.tmp 16) (.tmp 54) rfl rfl (z0c (set1 (fun _=>0) 36 252) true) rfl 37 _ (by rw[z0b];exact z0o) (by rw[z8d,z0b,z0b]) (z0s _ _) ?_))
 intro w4 R4 b4
 obtain⟨fs,hfs⟩:=z3f
 have HS:Hid _:=hfs
 clear hfs
 go_wp2_with (first | (refine z0h rfl rfl rfl rfl (by assumption) (by decide) (by decide) ?_;intro wn Rn HO HL;have Bn:=HL w3.heap.size w3 (Nat.le_refl _) (by assumption);clear HO HL) | (refine z7d (by rfl) 37 (.tmp 16) rfl w3.heap.size rfl 37 (z0c (guardF p x a (b+fl)) true) _ (by assumption) HS.out rfl (by rw[z0b];exact z0o) ?_))
 have O5:Hid _:=O3.out.below HK.out Bn
 clear Bn Rn b4 R4 O3
 refine Calls.mono (One.put HK.out O5.out (guardF p x a (b+fl)) true HF.out) ?_
 rintro e w6 ⟨rfl,F6,o6,-,-⟩
 have O6:Hid (One Is w [] q 64 0 w6 F6 (begC (guardF p x a (b+fl)) true) (lone 0 W) []):=o6
 clear o6 O5
 go_wp2_with fail
 have st:=One.step HK.out O6.out (by decide) (by decide) (by decide) no_lates
 rw[P1.out] at st
 refine Calls.mono st ?_
 rintro e w7 ⟨rfl,F7,o7,-,-⟩
 have O6b:Hid (One Is w [] q 64 1 w7 F7 s1 (lone 0 W) []):=o7
 clear o7 O6 st
 go_wp2_with fail
 have st:=One.step HK.out O6b.out (by decide) (by decide) (by decide) no_lates
 rw[P2.out,HS1.out] at st
 refine Calls.mono st ?_
 rintro e w7b ⟨rfl,F7b,o7,-,-⟩
 have O7:Hid (One Is w [] q 64 2 w7b F7b s (lone 0 W) []):=o7
 clear o7 O6b st
 have HWD:Hid _:=fun (V:World) (F:Nat→Prop) (h:One Is w [] q 64 2 V F s (lone 0 W) [])=>h.word HK.out (p/4).toNat (by omega) (by decide) p (by omega)
 by_cases h1:a≤p
 ·by_cases h2:p+4≤b
  ·by_cases h3:fl%2=1
   ·have HOK:okG a b fl p 2=true:=by unfold okG;simp[*]
    obtain⟨k39,k38,k4⟩:=G.out.go HOK rfl
    have K39:Hid _:=k39
    have K38:Hid _:=k38
    have K4:Hid _:=k4
    clear k39 k38 k4 G
    clear HOK
    go_wp2_with fail
    refine Calls.mono (HK.out.regs O7.out.imp) ?_
    rintro e w8 ⟨rfl,b8⟩
    have O8:Hid _:=O7.out.below HK.out b8
    clear b8 O7
    go_wp2_with (first | (refine z4p rfl 37 (.tmp 23) (.tmp 137) rfl rfl (z0c _ _) rfl 37 _ (by rw[z0b];exact z0o) (by rw[z8d,z0b,z0b]) (z0s _ _) ?_))
    intro w9 R9 b9
    have O9:Hid _:=O8.out.below HK.out b9
    clear b9 O8
    generalize w8.heap.size=rb at *
    go_wp2_with fail
    have cw:=HWD.out _ _ O9.out
    generalize z0p (lone 0 W) (p/4).toNat=wd at *
    refine Calls.mono cw ?_
    rintro e w10 ⟨rfl,b10⟩
    have O10:Hid _:=O9.out.below HK.out b10
    have R10:=z0f R9 b10
    clear b10 O9 R9 cw HWD
    go_wp2_with (first | (go_at_call 13;refine (zErr6 _ _).mono ?_;rintro e wq ⟨rfl,hwq⟩;rw[hwq];clear hwq wq) | (refine wpList_load_reg_is (i:=39) (by rfl) rfl rfl R10 (by omega) (by omega) K39.out ?_) | (refine wpList_load_reg_is (i:=38) (by rfl) rfl rfl R10 (by omega) (by omega) K38.out ?_) | (refine wpList_load_reg_is (i:=4) (by rfl) rfl rfl R10 (by omega) (by omega) K4.out ?_))
    refine Calls.mono (kawake6 HK.out _) ?_
    rintro e w12 ⟨rfl,b12⟩
    have O12:Hid _:=O10.out.below HK.out b12
    go_wp2
    go_ret
    exact⟨rfl,O12.out.bel⟩
   ·have h3b:(fl%2==1)=false:=by simp[h3]
    have HOK:okG a b fl p 2=false:=by unfold okG;simp[*]
    obtain⟨k32,ku,k39,k40,kw,k3⟩:=G.out.no HOK
    have K32:Hid _:=k32
    have KU:Hid _:=ku
    have K39:Hid (s.f 39=1):=k39
    have K40:Hid _:=k40
    have K3:Hid _:=k3
    clear k32 ku k39 k40 k3 G
    clear HOK
    go_wp2_with fail
    refine Calls.mono (HK.out.regs O7.out.imp) ?_
    rintro e w8 ⟨rfl,b8⟩
    have O8:Hid _:=O7.out.below HK.out b8
    clear b8 O7
    go_wp2_with (first | (refine z4p rfl 37 (.tmp 23) (.tmp 137) rfl rfl (z0c _ _) rfl 37 _ (by rw[z0b];exact z0o) (by rw[z8d,z0b,z0b]) (z0s _ _) ?_))
    intro w9 R9 b9
    have O9:Hid _:=O8.out.below HK.out b9
    clear b9 O8
    generalize w8.heap.size=rb at *
    go_wp2_with fail
    have cw:=HWD.out _ _ O9.out
    rw[kw] at cw
    refine Calls.mono cw ?_
    rintro e w10 ⟨rfl,b10⟩
    have O10:Hid _:=O9.out.below HK.out b10
    have R10:=z0f R9 b10
    clear b10 O9 R9 cw kw HWD
    have CA:Hid (Below w10.heap.size w10 (w10.alloc (.cells #[.int .u32 5,.int .u32 7,.int .u32 1] 31))):=(Below.refl _ _).alloc (Nat.le_refl _) _
    have R11:Hid _:=z0f R10 CA.out
    have O11:Hid _:=O10.out.below HK.out CA.out
    clear R10 O10 CA
    go_wp2_with (first | (go_at_call 13;refine (zErr6 _ _).mono ?_;rintro e wq ⟨rfl,hwq⟩;rw[hwq];clear hwq wq) | (refine z8k (v:=.int .u32 1) rfl rfl rfl (z0g _ _) rfl ?_) | (refine wpList_load_reg_is (i:=32) (by rfl) rfl rfl R11.out (by omega) (by omega) K32.out ?_) | (refine wpList_load_reg_is (i:=39) (by rfl) rfl rfl R11.out (by omega) (by omega) K39.out ?_) | (refine wpList_load_reg_is (i:=40) (by rfl) rfl rfl R11.out (by omega) (by omega) K40.out ?_) | (refine wpList_load_reg_is (i:=3) (by rfl) rfl rfl R11.out (by omega) (by omega) K3.out ?_) | (refine wpList_user_is (by rfl) rfl rfl R11.out KU.out ?_))
    refine Calls.mono (kawake6 HK.out _) ?_
    rintro e w12 ⟨rfl,b12⟩
    have O12:Hid _:=O11.out.below HK.out b12
    go_wp2
    go_ret
    exact⟨rfl,O12.out.bel⟩
  ·have HOK:okG a b fl p 2=false:=by unfold okG;simp[*]
   obtain⟨k32,ku,k39,k40,kw,k3⟩:=G.out.no HOK
   have K32:Hid _:=k32
   have KU:Hid _:=ku
   have K39:Hid (s.f 39=1):=k39
   have K40:Hid _:=k40
   have K3:Hid _:=k3
   clear k32 ku k39 k40 k3 G
   clear HOK
   go_wp2_with fail
   refine Calls.mono (HK.out.regs O7.out.imp) ?_
   rintro e w8 ⟨rfl,b8⟩
   have O8:Hid _:=O7.out.below HK.out b8
   clear b8 O7
   go_wp2_with (first | (refine z4p rfl 37 (.tmp 23) (.tmp 137) rfl rfl (z0c _ _) rfl 37 _ (by rw[z0b];exact z0o) (by rw[z8d,z0b,z0b]) (z0s _ _) ?_))
   intro w9 R9 b9
   have O9:Hid _:=O8.out.below HK.out b9
   clear b9 O8
   generalize w8.heap.size=rb at *
   go_wp2_with fail
   have cw:=HWD.out _ _ O9.out
   rw[kw] at cw
   refine Calls.mono cw ?_
   rintro e w10 ⟨rfl,b10⟩
   have O10:Hid _:=O9.out.below HK.out b10
   have R10:=z0f R9 b10
   clear b10 O9 R9 cw kw HWD
   have CA:Hid (Below w10.heap.size w10 (w10.alloc (.cells #[.int .u32 5,.int .u32 7,.int .u32 1] 31))):=(Below.refl _ _).alloc (Nat.le_refl _) _
   have R11:Hid _:=z0f R10 CA.out
   have O11:Hid _:=O10.out.below HK.out CA.out
   clear R10 O10 CA
   go_wp2_with (first | (go_at_call 13;refine (zErr6 _ _).mono ?_;rintro e wq ⟨rfl,hwq⟩;rw[hwq];clear hwq wq) | (refine z8k (v:=.int .u32 1) rfl rfl rfl (z0g _ _) rfl ?_) | (refine wpList_load_reg_is (i:=32) (by rfl) rfl rfl R11.out (by omega) (by omega) K32.out ?_) | (refine wpList_load_reg_is (i:=39) (by rfl) rfl rfl R11.out (by omega) (by omega) K39.out ?_) | (refine wpList_load_reg_is (i:=40) (by rfl) rfl rfl R11.out (by omega) (by omega) K40.out ?_) | (refine wpList_load_reg_is (i:=3) (by rfl) rfl rfl R11.out (by omega) (by omega) K3.out ?_) | (refine wpList_user_is (by rfl) rfl rfl R11.out KU.out ?_))
   refine Calls.mono (kawake6 HK.out _) ?_
   rintro e w12 ⟨rfl,b12⟩
   have O12:Hid _:=O11.out.below HK.out b12
   go_wp2
   go_ret
   exact⟨rfl,O12.out.bel⟩
 ·have HOK:okG a b fl p 2=false:=by unfold okG;simp[*]
  obtain⟨k32,ku,k39,k40,kw,k3⟩:=G.out.no HOK
  have K32:Hid _:=k32
  have KU:Hid _:=ku
  have K39:Hid (s.f 39=1):=k39
  have K40:Hid _:=k40
  have K3:Hid _:=k3
  clear k32 ku k39 k40 k3 G
  clear HOK
  go_wp2_with fail
  refine Calls.mono (HK.out.regs O7.out.imp) ?_
  rintro e w8 ⟨rfl,b8⟩
  have O8:Hid _:=O7.out.below HK.out b8
  clear b8 O7
  go_wp2_with (first | (refine z4p rfl 37 (.tmp 23) (.tmp 137) rfl rfl (z0c _ _) rfl 37 _ (by rw[z0b];exact z0o) (by rw[z8d,z0b,z0b]) (z0s _ _) ?_))
  intro w9 R9 b9
  have O9:Hid _:=O8.out.below HK.out b9
  clear b9 O8
  generalize w8.heap.size=rb at *
  go_wp2_with fail
  have cw:=HWD.out _ _ O9.out
  rw[kw] at cw
  refine Calls.mono cw ?_
  rintro e w10 ⟨rfl,b10⟩
  have O10:Hid _:=O9.out.below HK.out b10
  have R10:=z0f R9 b10
  clear b10 O9 R9 cw kw HWD
  have CA:Hid (Below w10.heap.size w10 (w10.alloc (.cells #[.int .u32 5,.int .u32 7,.int .u32 1] 31))):=(Below.refl _ _).alloc (Nat.le_refl _) _
  have R11:Hid _:=z0f R10 CA.out
  have O11:Hid _:=O10.out.below HK.out CA.out
  clear R10 O10 CA
  go_wp2_with (first | (go_at_call 13;refine (zErr6 _ _).mono ?_;rintro e wq ⟨rfl,hwq⟩;rw[hwq];clear hwq wq) | (refine z8k (v:=.int .u32 1) rfl rfl rfl (z0g _ _) rfl ?_) | (refine wpList_load_reg_is (i:=32) (by rfl) rfl rfl R11.out (by omega) (by omega) K32.out ?_) | (refine wpList_load_reg_is (i:=39) (by rfl) rfl rfl R11.out (by omega) (by omega) K39.out ?_) | (refine wpList_load_reg_is (i:=40) (by rfl) rfl rfl R11.out (by omega) (by omega) K40.out ?_) | (refine wpList_load_reg_is (i:=3) (by rfl) rfl rfl R11.out (by omega) (by omega) K3.out ?_) | (refine wpList_user_is (by rfl) rfl rfl R11.out KU.out ?_))
  refine Calls.mono (kawake6 HK.out _) ?_
  rintro e w12 ⟨rfl,b12⟩
  have O12:Hid _:=O11.out.below HK.out b12
  go_wp2
  go_ret
  exact⟨rfl,O12.out.bel⟩
theorem coreGuards {Is:z6d} (K:CoreK Is) (lo n at' how x:Int) (hlo:0≤lo∧lo≤255) (hn:0≤n∧n≤255) (hat:0≤at'∧at'≤255) (hh:0≤how∧how≤255) (hx:U32 x) (w:World) :
  Calls Tryz.prog 6 #[.int .u8 lo,.int .u8 n,.int .u8 at',.int .u8 how,.int .u32 x] w fun e w'=>e=.returned (.bool true)∧Below w.heap.size w w':=by
 have th:how.tmod 3=how%3:=Int.tmod_eq_emod_of_nonneg hh.1
 rcases (by omega:how%3=0∨how%3=1∨how%3=2) with e | e | e <;> rw[e] at th
 ·exact guards0 K lo n at' how x _ _ _ _ hlo hn hat hh hx rfl rfl rfl rfl th w
 ·exact guards1 K lo n at' how x _ _ _ _ hlo hn hat hh hx rfl rfl rfl rfl th w
 ·exact guards2 K lo n at' how x _ _ _ _ hlo hn hat hh hx rfl rfl rfl rfl th w
end Go.Proofs.YtilcoimelnpkeaaGreatDoor
