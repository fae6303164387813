/-
  Contracts of functions that the statement reaches, and what they are made of, callees first.
-/
import Derived.Test.YtilcoimelnpkeaaGreatDoorPzs
set_option maxRecDepth 100000
set_option maxHeartbeats 8000000
namespace Go.Proofs.YtilcoimelnpkeaaGreatDoor
open Go.RowKit
theorem jumps0w {Is:z6d} (K:CoreK Is) (to d how t:Int) (rd:Nat) (hto:0≤to∧to≤255) (hd:0≤d∧d≤255) (e1:1+d%31=(rd:Int)) (e2:to%60*4=t) (th:how.tmod 3=0) (w:World) :
  Calls Tryz.prog 8 #[.int .u8 to,.int .u8 d,.int .u8 how,.bool false] w fun e w'=>e=.returned (.bool true)∧Below w.heap.size w w':=by
 have HK:Hid _:=K
 have tt:to.tmod 60=to%60:=Int.tmod_eq_emod_of_nonneg hto.1
 have td:d.tmod 31=d%31:=Int.tmod_eq_emod_of_nonneg hd.1
 have hr0:0<rd:=by omega
 have hr:rd<32:=by omega
 have i5:(0:Int)≤(rd:Int):=by omega
 have i7:(rd:Int)<32:=by omega
 have ht:0≤t∧t<240:=by omega
 have h2:t%2=0:=by omega
 have ho:=or_odd ht h2
 have h4:t%4=0:=by omega
 obtain⟨W,hW⟩:∃ W,W=putN (jumpI 0 rd t):=⟨_,rfl⟩
 have hWu:U32 W:=by rw[hW];exact putN_u _
 have CW:Hid (∀ V:World,Calls Tryz.prog 12 #[.agg #[.string ⟨#[106,97,108]⟩,.int .i64 (rd:Int),.int .i64 0,.int .i64 0,.int .i32 (t-128)]] V fun e w'=>e=.returned (.int .u32 W)∧Below V.heap.size V w'):=fun V=>by
  have:=kWord ⟨#[106,97,108]⟩ (rd:Int) 0 0 (t-128) V
  rw[ByteArray.toList_eq] at this
  rw[hW]
  exact this
 obtain⟨s1,p1,j1⟩:=jump_plain (h:=0) (by decide) hr0 hr ht h2 hW
 have P1:Hid _:=p1
 have J1:Hid _:=j1
 have j32:s1.f 32=t:=j1.pc
 have jrd:s1.f rd=132:=j1.link hr0 hr
 have J32:Hid _:=j32
 have JRD:Hid _:=jrd
 have HU:Hid (∀ j,U32 (z0p (lone 32 W) j)):=lone_u 32 hWu
 have HW:Hid _:=hW
 have hq:=eqPtr2
 have hmk:∀ w,(Instr.makeSlice 22 (.int .i64 64) (.int .i64 64)).run Tryz.prog w=.ok (.slice (some ⟨w.heap.size,0,none⟩) 64 64) (w.alloc (.cells (wordsC (noughts 64)) 31)):=fun w=>by kernel_rfl
 clear K p1 j1 hW hWu j32 jrd
 go_enter Tryz.func8,Tryz.ntmps8
 go_wp2_with fail
 have A0:=z0g w (.cells (wordsC (noughts 64)) 31)
 have B0:Hid (Below w.heap.size w (w.alloc (.cells (wordsC (noughts 64)) 31))):=(Below.refl _ _).alloc (Nat.le_refl _) _
 generalize w.alloc (.cells (wordsC (noughts 64)) 31)=w0 at *
 obtain⟨g,hg⟩:∃ g,g=w.heap.size:=⟨_,rfl⟩
 have HG:Hid _:=hg
 rw[← hg]
 rw[← hg] at A0
 clear hg
 refine (CW.out _).mono ?_
 rintro e w1 ⟨rfl,b1⟩
 have A1:=z0f A0 b1
 have B1:Hid _:=z0e B0.out b1
 clear A0 B0 b1 CW
 go_wp2_with (first | (refine wpList_store_word rfl rfl rfl rfl A1 (by decide) ?_;intro w2 A2 HO HL HS;have B2:Hid _:=HL w.heap.size w (by rw[HG.out];exact Nat.le_refl _) B1.out;clear HO HL HS A1 B1))
 have hc:=words_cells A2
 have hb:=(Array.getElem?_eq_some_iff.1 A2).1
 refine Calls.mono (One.new HK.out g 0 64 (lone 32 W) (.slice none 0 0) [] B2.out (by rw[lone_len];decide) (by rw[lone_len];decide) HU.out hb hc (no_late _) (by decide)) ?_
 rintro e w3 ⟨p,F3,rfl,o3,-,-⟩
 rw[lone_len] at o3
 have O3:Hid _:=o3
 clear hc hb A2 B2 o3
 go_wp2_with (first | (go_at_call 13;refine (zErr6 _ _).mono ?_;rintro e wq ⟨rfl,hwq⟩;rw[hwq];clear hwq wq) | (refine wpList_built57 rfl _ rfl _ rfl _ _ (built_jump 128) ?_))
 refine Calls.mono (One.put HK.out O3.out (set1 (set1 (fun _=>0) 32 128) 36 252) false (z4m (z4m (fun _=>(⟨by decide,by decide⟩:U32 0)) 32 ⟨by decide,by decide⟩) 36 ⟨by decide,by decide⟩)) ?_
 rintro e w4 ⟨rfl,F4,o4,-,-⟩
 have O4:Hid (One Is w [] p 64 0 w4 F4 (begC jumpF false) (lone 32 W) []):=o4
 clear o4 O3
 go_wp2_with fail
 have st:=One.step HK.out O4.out (by decide) (by decide) (by decide) no_lates
 rw[P1.out] at st
 refine Calls.mono st ?_
 rintro e w5 ⟨rfl,F5,o5,-,-⟩
 have O5:Hid (One Is w [] p 64 1 w5 F5 s1 (lone 32 W) []):=o5
 clear o5 O4 st
 go_wp2_with fail
 refine Calls.mono (HK.out.regs O5.out.imp) ?_
 rintro e w6 ⟨rfl,b6⟩
 have O6:Hid _:=O5.out.below HK.out b6
 clear b6 O5
 go_wp2_with (first | (refine z4p rfl 37 (.tmp 15) (.tmp 78) rfl rfl (z0c _ _) rfl 37 _ (by rw[z0b];exact z0o) (by rw[z8d,z0b,z0b]) (z0s _ _) ?_))
 intro w7 R7 b7
 have O7:Hid _:=O6.out.below HK.out b7
 clear b7 O6
 generalize w6.heap.size=rb at *
 go_wp2_with (first | (refine wpList_load_reg_is (i:=32) (by rfl) rfl rfl R7 (by omega) (by omega) J32.out ?_) | (refine wpList_load_reg_is (i:=rd) (by rfl) rfl rfl R7 (by omega) (by omega) JRD.out ?_))
 have ct:=HK.out.time O7.out.imp
 rw[J1.out.t] at ct
 refine Calls.mono ct ?_
 rintro e w8 ⟨rfl,b8⟩
 have O8:Hid _:=O7.out.below HK.out b8
 clear b8 O7 R7 ct
 by_cases hn:t=128
 ·subst hn
  obtain⟨s2,p2,k32⟩:=jump_same (h:=0) (by decide) hr J1.out HW.out
  have K32:Hid _:=k32
  clear k32
  have st:=One.step HK.out O8.out (by decide) (by decide) (by decide) no_lates
  rw[p2] at st
  have st2:Hid _:=st
  clear st p2
  go_wp2_with fail
  refine Calls.mono st2.out ?_
  rintro e w9 ⟨rfl,F9,o9,-,-⟩
  have O9:Hid (One Is w [] p 64 2 w9 F9 s2 (lone 32 W) []):=o9
  clear o9 O8 st2
  go_wp2_with fail
  refine Calls.mono (HK.out.regs O9.out.imp) ?_
  rintro e w10 ⟨rfl,b10⟩
  have O10:Hid _:=O9.out.below HK.out b10
  clear b10 O9
  go_wp2_with (first | (refine z4p rfl 37 (.tmp 17) (.tmp 104) rfl rfl (z0c _ _) rfl 37 _ (by rw[z0b];exact z0o) (by rw[z8d,z0b,z0b]) (z0s _ _) ?_))
  intro w11 R11 b11
  have O11:Hid _:=O10.out.below HK.out b11
  clear b11 O10
  generalize w10.heap.size=rb2 at *
  go_wp2_with (first | (refine wpList_load_reg_is (i:=32) (by rfl) rfl rfl R11 (by omega) (by omega) K32.out ?_))
  refine Calls.mono (kawake6 HK.out _) ?_
  rintro e w12 ⟨rfl,b12⟩
  have O12:Hid _:=O11.out.below HK.out b12
  go_wp2
  go_ret
  exact⟨rfl,O12.out.bel⟩
 ·have hn2:(t==128)=false:=by simp[hn]
  obtain⟨s2,p2,k39,k40,k38,k32⟩:=jump_none (W:=W) J1.out ht h4 hn (by rw[HW.out];exact putN_u _)
  have K39:Hid _:=k39
  have K40:Hid _:=k40
  have K38:Hid _:=k38
  have K32:Hid _:=k32
  clear k39 k40 k38 k32
  have st:=One.step HK.out O8.out (by decide) (by decide) (by decide) no_lates
  rw[p2] at st
  have st2:Hid _:=st
  clear st p2
  go_wp2_with fail
  refine Calls.mono st2.out ?_
  rintro e w9 ⟨rfl,F9,o9,-,-⟩
  have O9:Hid (One Is w [] p 64 2 w9 F9 s2 (lone 32 W) []):=o9
  clear o9 O8 st2
  go_wp2_with fail
  refine Calls.mono (HK.out.regs O9.out.imp) ?_
  rintro e w10 ⟨rfl,b10⟩
  have O10:Hid _:=O9.out.below HK.out b10
  clear b10 O9
  go_wp2_with (first | (refine z4p rfl 37 (.tmp 17) (.tmp 104) rfl rfl (z0c _ _) rfl 37 _ (by rw[z0b];exact z0o) (by rw[z8d,z0b,z0b]) (z0s _ _) ?_))
  intro w11 R11 b11
  have O11:Hid _:=O10.out.below HK.out b11
  clear b11 O10
  generalize w10.heap.size=rb2 at *
  go_wp2_with (first | (refine wpList_load_reg_is (i:=39) (by rfl) rfl rfl R11 (by omega) (by omega) K39.out ?_) | (refine wpList_load_reg_is (i:=40) (by rfl) rfl rfl R11 (by omega) (by omega) K40.out ?_) | (refine wpList_load_reg_is (i:=38) (by rfl) rfl rfl R11 (by omega) (by omega) K38.out ?_) | (refine wpList_load_reg_is (i:=32) (by rfl) rfl rfl R11 (by omega) (by omega) K32.out ?_))
  refine Calls.mono (kawake6 HK.out _) ?_
  rintro e w12 ⟨rfl,b12⟩
  have O12:Hid _:=O11.out.below HK.out b12
  go_wp2
  go_ret
  exact⟨rfl,O12.out.bel⟩
theorem jumps0h {Is:z6d} (K:CoreK Is) (to d how t:Int) (rd:Nat) (hto:0≤to∧to≤255) (hd:0≤d∧d≤255) (e1:1+d%31=(rd:Int)) (e2:to%60*4+2=t) (th:how.tmod 3=0) (w:World) :
  Calls Tryz.prog 8 #[.int .u8 to,.int .u8 d,.int .u8 how,.bool true] w fun e w'=>e=.returned (.bool true)∧Below w.heap.size w w':=by
 have HK:Hid _:=K
 have tt:to.tmod 60=to%60:=Int.tmod_eq_emod_of_nonneg hto.1
 have td:d.tmod 31=d%31:=Int.tmod_eq_emod_of_nonneg hd.1
 have hr0:0<rd:=by omega
 have hr:rd<32:=by omega
 have i5:(0:Int)≤(rd:Int):=by omega
 have i7:(rd:Int)<32:=by omega
 have ht:0≤t∧t<240:=by omega
 have h2:t%2=0:=by omega
 have ho:=or_odd ht h2
 have h4:¬t%4=0:=by omega
 obtain⟨W,hW⟩:∃ W,W=putN (jumpI 0 rd t):=⟨_,rfl⟩
 have hWu:U32 W:=by rw[hW];exact putN_u _
 have CW:Hid (∀ V:World,Calls Tryz.prog 12 #[.agg #[.string ⟨#[106,97,108]⟩,.int .i64 (rd:Int),.int .i64 0,.int .i64 0,.int .i32 (t-128)]] V fun e w'=>e=.returned (.int .u32 W)∧Below V.heap.size V w'):=fun V=>by
  have:=kWord ⟨#[106,97,108]⟩ (rd:Int) 0 0 (t-128) V
  rw[ByteArray.toList_eq] at this
  rw[hW]
  exact this
 obtain⟨s1,p1,j1⟩:=jump_plain (h:=0) (by decide) hr0 hr ht h2 hW
 have P1:Hid _:=p1
 have J1:Hid _:=j1
 have j32:s1.f 32=t:=j1.pc
 have jrd:s1.f rd=132:=j1.link hr0 hr
 have J32:Hid _:=j32
 have JRD:Hid _:=jrd
 have HU:Hid (∀ j,U32 (z0p (lone 32 W) j)):=lone_u 32 hWu
 have HW:Hid _:=hW
 have hq:=eqPtr2
 have hmk:∀ w,(Instr.makeSlice 22 (.int .i64 64) (.int .i64 64)).run Tryz.prog w=.ok (.slice (some ⟨w.heap.size,0,none⟩) 64 64) (w.alloc (.cells (wordsC (noughts 64)) 31)):=fun w=>by kernel_rfl
 clear K p1 j1 hW hWu j32 jrd
 go_enter Tryz.func8,Tryz.ntmps8
 go_wp2_with fail
 have A0:=z0g w (.cells (wordsC (noughts 64)) 31)
 have B0:Hid (Below w.heap.size w (w.alloc (.cells (wordsC (noughts 64)) 31))):=(Below.refl _ _).alloc (Nat.le_refl _) _
 generalize w.alloc (.cells (wordsC (noughts 64)) 31)=w0 at *
 obtain⟨g,hg⟩:∃ g,g=w.heap.size:=⟨_,rfl⟩
 have HG:Hid _:=hg
 rw[← hg]
 rw[← hg] at A0
 clear hg
 refine (CW.out _).mono ?_
 rintro e w1 ⟨rfl,b1⟩
 have A1:=z0f A0 b1
 have B1:Hid _:=z0e B0.out b1
 clear A0 B0 b1 CW
 go_wp2_with (first | (refine wpList_store_word rfl rfl rfl rfl A1 (by decide) ?_;intro w2 A2 HO HL HS;have B2:Hid _:=HL w.heap.size w (by rw[HG.out];exact Nat.le_refl _) B1.out;clear HO HL HS A1 B1))
 have hc:=words_cells A2
 have hb:=(Array.getElem?_eq_some_iff.1 A2).1
 refine Calls.mono (One.new HK.out g 0 64 (lone 32 W) (.slice none 0 0) [] B2.out (by rw[lone_len];decide) (by rw[lone_len];decide) HU.out hb hc (no_late _) (by decide)) ?_
 rintro e w3 ⟨p,F3,rfl,o3,-,-⟩
 rw[lone_len] at o3
 have O3:Hid _:=o3
 clear hc hb A2 B2 o3
 go_wp2_with (first | (go_at_call 13;refine (zErr6 _ _).mono ?_;rintro e wq ⟨rfl,hwq⟩;rw[hwq];clear hwq wq) | (refine wpList_built57 rfl _ rfl _ rfl _ _ (built_jump 128) ?_))
 refine Calls.mono (One.put HK.out O3.out (set1 (set1 (fun _=>0) 32 128) 36 252) false (z4m (z4m (fun _=>(⟨by decide,by decide⟩:U32 0)) 32 ⟨by decide,by decide⟩) 36 ⟨by decide,by decide⟩)) ?_
 rintro e w4 ⟨rfl,F4,o4,-,-⟩
 have O4:Hid (One Is w [] p 64 0 w4 F4 (begC jumpF false) (lone 32 W) []):=o4
 clear o4 O3
 go_wp2_with fail
 have st:=One.step HK.out O4.out (by decide) (by decide) (by decide) no_lates
 rw[P1.out] at st
 refine Calls.mono st ?_
 rintro e w5 ⟨rfl,F5,o5,-,-⟩
 have O5:Hid (One Is w [] p 64 1 w5 F5 s1 (lone 32 W) []):=o5
 clear o5 O4 st
 go_wp2_with fail
 refine Calls.mono (HK.out.regs O5.out.imp) ?_
 rintro e w6 ⟨rfl,b6⟩
 have O6:Hid _:=O5.out.below HK.out b6
 clear b6 O5
 go_wp2_with (first | (refine z4p rfl 37 (.tmp 15) (.tmp 78) rfl rfl (z0c _ _) rfl 37 _ (by rw[z0b];exact z0o) (by rw[z8d,z0b,z0b]) (z0s _ _) ?_))
 intro w7 R7 b7
 have O7:Hid _:=O6.out.below HK.out b7
 clear b7 O6
 generalize w6.heap.size=rb at *
 go_wp2_with (first | (refine wpList_load_reg_is (i:=32) (by rfl) rfl rfl R7 (by omega) (by omega) J32.out ?_) | (refine wpList_load_reg_is (i:=rd) (by rfl) rfl rfl R7 (by omega) (by omega) JRD.out ?_))
 have ct:=HK.out.time O7.out.imp
 rw[J1.out.t] at ct
 refine Calls.mono ct ?_
 rintro e w8 ⟨rfl,b8⟩
 have O8:Hid _:=O7.out.below HK.out b8
 clear b8 O7 R7 ct
 obtain⟨s2,p2,k39,k40,k38,k32⟩:=jump_odd J1.out h4 (lone 32 W)
 have K39:Hid _:=k39
 have K40:Hid _:=k40
 have K38:Hid _:=k38
 have K32:Hid _:=k32
 clear k39 k40 k38 k32
 have st:=One.step HK.out O8.out (by decide) (by decide) (by decide) no_lates
 rw[p2] at st
 have st2:Hid _:=st
 clear st p2
 go_wp2_with fail
 refine Calls.mono st2.out ?_
 rintro e w9 ⟨rfl,F9,o9,-,-⟩
 have O9:Hid (One Is w [] p 64 2 w9 F9 s2 (lone 32 W) []):=o9
 clear o9 O8 st2
 go_wp2_with fail
 refine Calls.mono (HK.out.regs O9.out.imp) ?_
 rintro e w10 ⟨rfl,b10⟩
 have O10:Hid _:=O9.out.below HK.out b10
 clear b10 O9
 go_wp2_with (first | (refine z4p rfl 37 (.tmp 17) (.tmp 104) rfl rfl (z0c _ _) rfl 37 _ (by rw[z0b];exact z0o) (by rw[z8d,z0b,z0b]) (z0s _ _) ?_))
 intro w11 R11 b11
 have O11:Hid _:=O10.out.below HK.out b11
 clear b11 O10
 generalize w10.heap.size=rb2 at *
 go_wp2_with (first | (refine wpList_load_reg_is (i:=39) (by rfl) rfl rfl R11 (by omega) (by omega) K39.out ?_) | (refine wpList_load_reg_is (i:=40) (by rfl) rfl rfl R11 (by omega) (by omega) K40.out ?_) | (refine wpList_load_reg_is (i:=38) (by rfl) rfl rfl R11 (by omega) (by omega) K38.out ?_) | (refine wpList_load_reg_is (i:=32) (by rfl) rfl rfl R11 (by omega) (by omega) K32.out ?_))
 refine Calls.mono (kawake6 HK.out _) ?_
 rintro e w12 ⟨rfl,b12⟩
 have O12:Hid _:=O11.out.below HK.out b12
 go_wp2
 go_ret
 exact⟨rfl,O12.out.bel⟩
theorem jumps1w {Is:z6d} (K:CoreK Is) (to d how t:Int) (rd:Nat) (hto:0≤to∧to≤255) (hd:0≤d∧d≤255) (e1:1+d%31=(rd:Int)) (e2:to%60*4=t) (th:how.tmod 3=1) (w:World) :
  Calls Tryz.prog 8 #[.int .u8 to,.int .u8 d,.int .u8 how,.bool false] w fun e w'=>e=.returned (.bool true)∧Below w.heap.size w w':=by
 have HK:Hid _:=K
 have tt:to.tmod 60=to%60:=Int.tmod_eq_emod_of_nonneg hto.1
 have td:d.tmod 31=d%31:=Int.tmod_eq_emod_of_nonneg hd.1
 have hr0:0<rd:=by omega
 have hr:rd<32:=by omega
 have i5:(0:Int)≤(rd:Int):=by omega
 have i7:(rd:Int)<32:=by omega
 have ht:0≤t∧t<240:=by omega
 have h2:t%2=0:=by omega
 have ho:=or_odd ht h2
 have h4:t%4=0:=by omega
 obtain⟨W,hW⟩:∃ W,W=putN (jumpI 1 rd t):=⟨_,rfl⟩
 have hWu:U32 W:=by rw[hW];exact putN_u _
 have CW:Hid (∀ V:World,Calls Tryz.prog 12 #[.agg #[.string ⟨#[106,97,108,114]⟩,.int .i64 (rd:Int),.int .i64 0,.int .i64 0,.int .i32 (t+1)]] V fun e w'=>e=.returned (.int .u32 W)∧Below V.heap.size V w'):=fun V=>by
  have:=kWord ⟨#[106,97,108,114]⟩ (rd:Int) 0 0 (t+1) V
  rw[ByteArray.toList_eq] at this
  rw[hW]
  exact this
 obtain⟨s1,p1,j1⟩:=jump_plain (h:=1) (by decide) hr0 hr ht h2 hW
 have P1:Hid _:=p1
 have J1:Hid _:=j1
 have j32:s1.f 32=t:=j1.pc
 have jrd:s1.f rd=132:=j1.link hr0 hr
 have J32:Hid _:=j32
 have JRD:Hid _:=jrd
 have HU:Hid (∀ j,U32 (z0p (lone 32 W) j)):=lone_u 32 hWu
 have HW:Hid _:=hW
 have hq:=eqPtr2
 have hmk:∀ w,(Instr.makeSlice 22 (.int .i64 64) (.int .i64 64)).run Tryz.prog w=.ok (.slice (some ⟨w.heap.size,0,none⟩) 64 64) (w.alloc (.cells (wordsC (noughts 64)) 31)):=fun w=>by kernel_rfl
 clear K p1 j1 hW hWu j32 jrd
 go_enter Tryz.func8,Tryz.ntmps8
 go_wp2_with fail
 have A0:=z0g w (.cells (wordsC (noughts 64)) 31)
 have B0:Hid (Below w.heap.size w (w.alloc (.cells (wordsC (noughts 64)) 31))):=(Below.refl _ _).alloc (Nat.le_refl _) _
 generalize w.alloc (.cells (wordsC (noughts 64)) 31)=w0 at *
 obtain⟨g,hg⟩:∃ g,g=w.heap.size:=⟨_,rfl⟩
 have HG:Hid _:=hg
 rw[← hg]
 rw[← hg] at A0
 clear hg
 refine (CW.out _).mono ?_
 rintro e w1 ⟨rfl,b1⟩
 have A1:=z0f A0 b1
 have B1:Hid _:=z0e B0.out b1
 clear A0 B0 b1 CW
 go_wp2_with (first | (refine wpList_store_word rfl rfl rfl rfl A1 (by decide) ?_;intro w2 A2 HO HL HS;have B2:Hid _:=HL w.heap.size w (by rw[HG.out];exact Nat.le_refl _) B1.out;clear HO HL HS A1 B1))
 have hc:=words_cells A2
 have hb:=(Array.getElem?_eq_some_iff.1 A2).1
 refine Calls.mono (One.new HK.out g 0 64 (lone 32 W) (.slice none 0 0) [] B2.out (by rw[lone_len];decide) (by rw[lone_len];decide) HU.out hb hc (no_late _) (by decide)) ?_
 rintro e w3 ⟨p,F3,rfl,o3,-,-⟩
 rw[lone_len] at o3
 have O3:Hid _:=o3
 clear hc hb A2 B2 o3
 go_wp2_with (first | (go_at_call 13;refine (zErr6 _ _).mono ?_;rintro e wq ⟨rfl,hwq⟩;rw[hwq];clear hwq wq) | (refine wpList_built57 rfl _ rfl _ rfl _ _ (built_jump 128) ?_))
 refine Calls.mono (One.put HK.out O3.out (set1 (set1 (fun _=>0) 32 128) 36 252) false (z4m (z4m (fun _=>(⟨by decide,by decide⟩:U32 0)) 32 ⟨by decide,by decide⟩) 36 ⟨by decide,by decide⟩)) ?_
 rintro e w4 ⟨rfl,F4,o4,-,-⟩
 have O4:Hid (One Is w [] p 64 0 w4 F4 (begC jumpF false) (lone 32 W) []):=o4
 clear o4 O3
 go_wp2_with fail
 have st:=One.step HK.out O4.out (by decide) (by decide) (by decide) no_lates
 rw[P1.out] at st
 refine Calls.mono st ?_
 rintro e w5 ⟨rfl,F5,o5,-,-⟩
 have O5:Hid (One Is w [] p 64 1 w5 F5 s1 (lone 32 W) []):=o5
 clear o5 O4 st
 go_wp2_with fail
 refine Calls.mono (HK.out.regs O5.out.imp) ?_
 rintro e w6 ⟨rfl,b6⟩
 have O6:Hid _:=O5.out.below HK.out b6
 clear b6 O5
 go_wp2_with (first | (refine z4p rfl 37 (.tmp 15) (.tmp 78) rfl rfl (z0c _ _) rfl 37 _ (by rw[z0b];exact z0o) (by rw[z8d,z0b,z0b]) (z0s _ _) ?_))
 intro w7 R7 b7
 have O7:Hid _:=O6.out.below HK.out b7
 clear b7 O6
 generalize w6.heap.size=rb at *
 go_wp2_with (first | (refine wpList_load_reg_is (i:=32) (by rfl) rfl rfl R7 (by omega) (by omega) J32.out ?_) | (refine wpList_load_reg_is (i:=rd) (by rfl) rfl rfl R7 (by omega) (by omega) JRD.out ?_))
 have ct:=HK.out.time O7.out.imp
 rw[J1.out.t] at ct
 refine Calls.mono ct ?_
 rintro e w8 ⟨rfl,b8⟩
 have O8:Hid _:=O7.out.below HK.out b8
 clear b8 O7 R7 ct
 by_cases hn:t=128
 ·subst hn
  obtain⟨s2,p2,k32⟩:=jump_same (h:=1) (by decide) hr J1.out HW.out
  have K32:Hid _:=k32
  clear k32
  have st:=One.step HK.out O8.out (by decide) (by decide) (by decide) no_lates
  rw[p2] at st
  have st2:Hid _:=st
  clear st p2
  go_wp2_with fail
  refine Calls.mono st2.out ?_
  rintro e w9 ⟨rfl,F9,o9,-,-⟩
  have O9:Hid (One Is w [] p 64 2 w9 F9 s2 (lone 32 W) []):=o9
  clear o9 O8 st2
  go_wp2_with fail
  refine Calls.mono (HK.out.regs O9.out.imp) ?_
  rintro e w10 ⟨rfl,b10⟩
  have O10:Hid _:=O9.out.below HK.out b10
  clear b10 O9
  go_wp2_with (first | (refine z4p rfl 37 (.tmp 17) (.tmp 104) rfl rfl (z0c _ _) rfl 37 _ (by rw[z0b];exact z0o) (by rw[z8d,z0b,z0b]) (z0s _ _) ?_))
  intro w11 R11 b11
  have O11:Hid _:=O10.out.below HK.out b11
  clear b11 O10
  generalize w10.heap.size=rb2 at *
  go_wp2_with (first | (refine wpList_load_reg_is (i:=32) (by rfl) rfl rfl R11 (by omega) (by omega) K32.out ?_))
  refine Calls.mono (kawake6 HK.out _) ?_
  rintro e w12 ⟨rfl,b12⟩
  have O12:Hid _:=O11.out.below HK.out b12
  go_wp2
  go_ret
  exact⟨rfl,O12.out.bel⟩
 ·have hn2:(t==128)=false:=by simp[hn]
  obtain⟨s2,p2,k39,k40,k38,k32⟩:=jump_none (W:=W) J1.out ht h4 hn (by rw[HW.out];exact putN_u _)
  have K39:Hid _:=k39
  have K40:Hid _:=k40
  have K38:Hid _:=k38
  have K32:Hid _:=k32
  clear k39 k40 k38 k32
  have st:=One.step HK.out O8.out (by decide) (by decide) (by decide) no_lates
  rw[p2] at st
  have st2:Hid _:=st
  clear st p2
  go_wp2_with fail
  refine Calls.mono st2.out ?_
  rintro e w9 ⟨rfl,F9,o9,-,-⟩
  have O9:Hid (One Is w [] p 64 2 w9 F9 s2 (lone 32 W) []):=o9
  clear o9 O8 st2
  go_wp2_with fail
  refine Calls.mono (HK.out.regs O9.out.imp) ?_
  rintro e w10 ⟨rfl,b10⟩
  have O10:Hid _:=O9.out.below HK.out b10
  clear b10 O9
  go_wp2_with (first | (refine z4p rfl 37 (.tmp 17) (.tmp 104) rfl rfl (z0c _ _) rfl 37 _ (by rw[z0b];exact z0o) (by rw[z8d,z0b,z0b]) (z0s _ _) ?_))
  intro w11 R11 b11
  have O11:Hid _:=O10.out.below HK.out b11
  clear b11 O10
  generalize w10.heap.size=rb2 at *
  go_wp2_with (first | (refine wpList_load_reg_is (i:=39) (by rfl) rfl rfl R11 (by omega) (by omega) K39.out ?_) | (refine wpList_load_reg_is (i:=40) (by rfl) rfl rfl R11 (by omega) (by omega) K40.out ?_) | (refine wpList_load_reg_is (i:=38) (by rfl) rfl rfl R11 (by omega) (by omega) K38.out ?_) | (refine wpList_load_reg_is (i:=32) (by rfl) rfl rfl R11 (by omega) (by omega) K32.out ?_))
  refine Calls.mono (kawake6 HK.out _) ?_
  rintro e w12 ⟨rfl,b12⟩
  have O12:Hid _:=O11.out.below HK.out b12
  go_wp2
  go_ret
  exact⟨rfl,O12.out.bel⟩
theorem jumps1h {Is:z6d} (K:CoreK Is) (to d how t:Int) (rd:Nat) (hto:0≤to∧to≤255) (hd:0≤d∧d≤255) (e1:1+d%31=(rd:Int)) (e2:to%60*4+2=t) (th:how.tmod 3=1) (w:World) :
  Calls Tryz.prog 8 #[.int .u8 to,.int .u8 d,.int .u8 how,.bool true] w fun e w'=>e=.returned (.bool true)∧Below w.heap.size w w':=by
 have HK:Hid _:=K
 have tt:to.tmod 60=to%60:=Int.tmod_eq_emod_of_nonneg hto.1
 have td:d.tmod 31=d%31:=Int.tmod_eq_emod_of_nonneg hd.1
 have hr0:0<rd:=by omega
 have hr:rd<32:=by omega
 have i5:(0:Int)≤(rd:Int):=by omega
 have i7:(rd:Int)<32:=by omega
 have ht:0≤t∧t<240:=by omega
 have h2:t%2=0:=by omega
 have ho:=or_odd ht h2
 have h4:¬t%4=0:=by omega
 obtain⟨W,hW⟩:∃ W,W=putN (jumpI 1 rd t):=⟨_,rfl⟩
 have hWu:U32 W:=by rw[hW];exact putN_u _
 have CW:Hid (∀ V:World,Calls Tryz.prog 12 #[.agg #[.string ⟨#[106,97,108,114]⟩,.int .i64 (rd:Int),.int .i64 0,.int .i64 0,.int .i32 (t+1)]] V fun e w'=>e=.returned (.int .u32 W)∧Below V.heap.size V w'):=fun V=>by
  have:=kWord ⟨#[106,97,108,114]⟩ (rd:Int) 0 0 (t+1) V
  rw[ByteArray.toList_eq] at this
  rw[hW]
  exact this
 obtain⟨s1,p1,j1⟩:=jump_plain (h:=1) (by decide) hr0 hr ht h2 hW
 have P1:Hid _:=p1
 have J1:Hid _:=j1
 have j32:s1.f 32=t:=j1.pc
 have jrd:s1.f rd=132:=j1.link hr0 hr
 have J32:Hid _:=j32
 have JRD:Hid _:=jrd
 have HU:Hid (∀ j,U32 (z0p (lone 32 W) j)):=lone_u 32 hWu
 have HW:Hid _:=hW
 have hq:=eqPtr2
 have hmk:∀ w,(Instr.makeSlice 22 (.int .i64 64) (.int .i64 64)).run Tryz.prog w=.ok (.slice (some ⟨w.heap.size,0,none⟩) 64 64) (w.alloc (.cells (wordsC (noughts 64)) 31)):=fun w=>by kernel_rfl
 clear K p1 j1 hW hWu j32 jrd
 go_enter Tryz.func8,Tryz.ntmps8
 go_wp2_with fail
 have A0:=z0g w (.cells (wordsC (noughts 64)) 31)
 have B0:Hid (Below w.heap.size w (w.alloc (.cells (wordsC (noughts 64)) 31))):=(Below.refl _ _).alloc (Nat.le_refl _) _
 generalize w.alloc (.cells (wordsC (noughts 64)) 31)=w0 at *
 obtain⟨g,hg⟩:∃ g,g=w.heap.size:=⟨_,rfl⟩
 have HG:Hid _:=hg
 rw[← hg]
 rw[← hg] at A0
 clear hg
 refine (CW.out _).mono ?_
 rintro e w1 ⟨rfl,b1⟩
 have A1:=z0f A0 b1
 have B1:Hid _:=z0e B0.out b1
 clear A0 B0 b1 CW
 go_wp2_with (first | (refine wpList_store_word rfl rfl rfl rfl A1 (by decide) ?_;intro w2 A2 HO HL HS;have B2:Hid _:=HL w.heap.size w (by rw[HG.out];exact Nat.le_refl _) B1.out;clear HO HL HS A1 B1))
 have hc:=words_cells A2
 have hb:=(Array.getElem?_eq_some_iff.1 A2).1
 refine Calls.mono (One.new HK.out g 0 64 (lone 32 W) (.slice none 0 0) [] B2.out (by rw[lone_len];decide) (by rw[lone_len];decide) HU.out hb hc (no_late _) (by decide)) ?_
 rintro e w3 ⟨p,F3,rfl,o3,-,-⟩
 rw[lone_len] at o3
 have O3:Hid _:=o3
 clear hc hb A2 B2 o3
 go_wp2_with (first | (go_at_call 13;refine (zErr6 _ _).mono ?_;rintro e wq ⟨rfl,hwq⟩;rw[hwq];clear hwq wq) | (refine wpList_built57 rfl _ rfl _ rfl _ _ (built_jump 128) ?_))
 refine Calls.mono (One.put HK.out O3.out (set1 (set1 (fun _=>0) 32 128) 36 252) false (z4m (z4m (fun _=>(⟨by decide,by decide⟩:U32 0)) 32 ⟨by decide,by decide⟩) 36 ⟨by decide,by decide⟩)) ?_
 rintro e w4 ⟨rfl,F4,o4,-,-⟩
 have O4:Hid (One Is w [] p 64 0 w4 F4 (begC jumpF false) (lone 32 W) []):=o4
 clear o4 O3
 go_wp2_with fail
 have st:=One.step HK.out O4.out (by decide) (by decide) (by decide) no_lates
 rw[P1.out] at st
 refine Calls.mono st ?_
 rintro e w5 ⟨rfl,F5,o5,-,-⟩
 have O5:Hid (One Is w [] p 64 1 w5 F5 s1 (lone 32 W) []):=o5
 clear o5 O4 st
 go_wp2_with fail
 refine Calls.mono (HK.out.regs O5.out.imp) ?_
 rintro e w6 ⟨rfl,b6⟩
 have O6:Hid _:=O5.out.below HK.out b6
 clear b6 O5
 go_wp2_with (first | (refine z4p rfl 37 (.tmp 15) (.tmp 78) rfl rfl (z0c _ _) rfl 37 _ (by rw[z0b];exact z0o) (by rw[z8d,z0b,z0b]) (z0s _ _) ?_))
 intro w7 R7 b7
 have O7:Hid _:=O6.out.below HK.out b7
 clear b7 O6
 generalize w6.heap.size=rb at *
 go_wp2_with (first | (refine wpList_load_reg_is (i:=32) (by rfl) rfl rfl R7 (by omega) (by omega) J32.out ?_) | (refine wpList_load_reg_is (i:=rd) (by rfl) rfl rfl R7 (by omega) (by omega) JRD.out ?_))
 have ct:=HK.out.time O7.out.imp
 rw[J1.out.t] at ct
 refine Calls.mono ct ?_
 rintro e w8 ⟨rfl,b8⟩
 have O8:Hid _:=O7.out.below HK.out b8
 clear b8 O7 R7 ct
 obtain⟨s2,p2,k39,k40,k38,k32⟩:=jump_odd J1.out h4 (lone 32 W)
 have K39:Hid _:=k39
 have K40:Hid _:=k40
 have K38:Hid _:=k38
 have K32:Hid _:=k32
 clear k39 k40 k38 k32
 have st:=One.step HK.out O8.out (by decide) (by decide) (by decide) no_lates
 rw[p2] at st
 have st2:Hid _:=st
 clear st p2
 go_wp2_with fail
 refine Calls.mono st2.out ?_
 rintro e w9 ⟨rfl,F9,o9,-,-⟩
 have O9:Hid (One Is w [] p 64 2 w9 F9 s2 (lone 32 W) []):=o9
 clear o9 O8 st2
 go_wp2_with fail
 refine Calls.mono (HK.out.regs O9.out.imp) ?_
 rintro e w10 ⟨rfl,b10⟩
 have O10:Hid _:=O9.out.below HK.out b10
 clear b10 O9
 go_wp2_with (first | (refine z4p rfl 37 (.tmp 17) (.tmp 104) rfl rfl (z0c _ _) rfl 37 _ (by rw[z0b];exact z0o) (by rw[z8d,z0b,z0b]) (z0s _ _) ?_))
 intro w11 R11 b11
 have O11:Hid _:=O10.out.below HK.out b11
 clear b11 O10
 generalize w10.heap.size=rb2 at *
 go_wp2_with (first | (refine wpList_load_reg_is (i:=39) (by rfl) rfl rfl R11 (by omega) (by omega) K39.out ?_) | (refine wpList_load_reg_is (i:=40) (by rfl) rfl rfl R11 (by omega) (by omega) K40.out ?_) | (refine wpList_load_reg_is (i:=38) (by rfl) rfl rfl R11 (by omega) (by omega) K38.out ?_) | (refine wpList_load_reg_is (i:=32) (by rfl) rfl rfl R11 (by omega) (by omega) K32.out ?_))
 refine Calls.mono (kawake6 HK.out _) ?_
 rintro e w12 ⟨rfl,b12⟩
 have O12:Hid _:=O11.out.below HK.out b12
 go_wp2
 go_ret
 exact⟨rfl,O12.out.bel⟩
theorem jumps2w {Is:z6d} (K:CoreK Is) (to d how t:Int) (rd:Nat) (hto:0≤to∧to≤255) (hd:0≤d∧d≤255) (e1:1+d%31=(rd:Int)) (e2:to%60*4=t) (th:how.tmod 3=2) (w:World) :
  Calls Tryz.prog 8 #[.int .u8 to,.int .u8 d,.int .u8 how,.bool false] w fun e w'=>e=.returned (.bool true)∧Below w.heap.size w w':=by
 have HK:Hid _:=K
 have tt:to.tmod 60=to%60:=Int.tmod_eq_emod_of_nonneg hto.1
 have td:d.tmod 31=d%31:=Int.tmod_eq_emod_of_nonneg hd.1
 have hr0:0<rd:=by omega
 have hr:rd<32:=by omega
 have i5:(0:Int)≤(rd:Int):=by omega
 have i7:(rd:Int)<32:=by omega
 have ht:0≤t∧t<240:=by omega
 have h2:t%2=0:=by omega
 have ho:=or_odd ht h2
 have h4:t%4=0:=by omega
 obtain⟨W,hW⟩:∃ W,W=putN (jumpI 2 rd t):=⟨_,rfl⟩
 have hWu:U32 W:=by rw[hW];exact putN_u _
 have CW:Hid (∀ V:World,Calls Tryz.prog 12 #[.agg #[.string ⟨#[98,101,113]⟩,.int .i64 0,.int .i64 0,.int .i64 0,.int .i32 (t-128)]] V fun e w'=>e=.returned (.int .u32 W)∧Below V.heap.size V w'):=fun V=>by
  have:=kWord ⟨#[98,101,113]⟩ 0 0 0 (t-128) V
  rw[ByteArray.toList_eq] at this
  rw[hW]
  exact this
 obtain⟨s1,p1,j1⟩:=jump_plain (h:=2) (by decide) hr0 hr ht h2 hW
 have P1:Hid _:=p1
 have J1:Hid _:=j1
 have j32:s1.f 32=t:=j1.pc
 have jrd:s1.f rd=0:=j1.link hr0 hr
 have J32:Hid _:=j32
 have JRD:Hid _:=jrd
 have HU:Hid (∀ j,U32 (z0p (lone 32 W) j)):=lone_u 32 hWu
 have HW:Hid _:=hW
 have hq:=eqPtr2
 have hmk:∀ w,(Instr.makeSlice 22 (.int .i64 64) (.int .i64 64)).run Tryz.prog w=.ok (.slice (some ⟨w.heap.size,0,none⟩) 64 64) (w.alloc (.cells (wordsC (noughts 64)) 31)):=fun w=>by kernel_rfl
 clear K p1 j1 hW hWu j32 jrd
 go_enter Tryz.func8,Tryz.ntmps8
 go_wp2_with fail
 have A0:=z0g w (.cells (wordsC (noughts 64)) 31)
 have B0:Hid (Below w.heap.size w (w.alloc (.cells (wordsC (noughts 64)) 31))):=(Below.refl _ _).alloc (Nat.le_refl _) _
 generalize w.alloc (.cells (wordsC (noughts 64)) 31)=w0 at *
 obtain⟨g,hg⟩:∃ g,g=w.heap.size:=⟨_,rfl⟩
 have HG:Hid _:=hg
 rw[← hg]
 rw[← hg] at A0
 clear hg
 refine (CW.out _).mono ?_
 rintro e w1 ⟨rfl,b1⟩
 have A1:=z0f A0 b1
 have B1:Hid _:=z0e B0.out b1
 clear A0 B0 b1 CW
 go_wp2_with (first | (refine wpList_store_word rfl rfl rfl rfl A1 (by decide) ?_;intro w2 A2 HO HL HS;have B2:Hid _:=HL w.heap.size w (by rw[HG.out];exact Nat.le_refl _) B1.out;clear HO HL HS A1 B1))
 have hc:=words_cells A2
 have hb:=(Array.getElem?_eq_some_iff.1 A2).1
 refine Calls.mono (One.new HK.out g 0 64 (lone 32 W) (.slice none 0 0) [] B2.out (by rw[lone_len];decide) (by rw[lone_len];decide) HU.out hb hc (no_late _) (by decide)) ?_
 rintro e w3 ⟨p,F3,rfl,o3,-,-⟩
 rw[lone_len] at o3
 have O3:Hid _:=o3
 clear hc hb A2 B2 o3
 go_wp2_with (first | (go_at_call 13;refine (zErr6 _ _).mono ?_;rintro e wq ⟨rfl,hwq⟩;rw[hwq];clear hwq wq) | (refine wpList_built57 rfl _ rfl _ rfl _ _ (built_jump 128) ?_))
 refine Calls.mono (One.put HK.out O3.out (set1 (set1 (fun _=>0) 32 128) 36 252) false (z4m (z4m (fun _=>(⟨by decide,by decide⟩:U32 0)) 32 ⟨by decide,by decide⟩) 36 ⟨by decide,by decide⟩)) ?_
 rintro e w4 ⟨rfl,F4,o4,-,-⟩
 have O4:Hid (One Is w [] p 64 0 w4 F4 (begC jumpF false) (lone 32 W) []):=o4
 clear o4 O3
 go_wp2_with fail
 have st:=One.step HK.out O4.out (by decide) (by decide) (by decide) no_lates
 rw[P1.out] at st
 refine Calls.mono st ?_
 rintro e w5 ⟨rfl,F5,o5,-,-⟩
 have O5:Hid (One Is w [] p 64 1 w5 F5 s1 (lone 32 W) []):=o5
 clear o5 O4 st
 go_wp2_with fail
 refine Calls.mono (HK.out.regs O5.out.imp) ?_
 rintro e w6 ⟨rfl,b6⟩
 have O6:Hid _:=O5.out.below HK.out b6
 clear b6 O5
 go_wp2_with (first | (refine z4p rfl 37 (.tmp 15) (.tmp 78) rfl rfl (z0c _ _) rfl 37 _ (by rw[z0b];exact z0o) (by rw[z8d,z0b,z0b]) (z0s _ _) ?_))
 intro w7 R7 b7
 have O7:Hid _:=O6.out.below HK.out b7
 clear b7 O6
 generalize w6.heap.size=rb at *
 go_wp2_with (first | (refine wpList_load_reg_is (i:=32) (by rfl) rfl rfl R7 (by omega) (by omega) J32.out ?_) | (refine wpList_load_reg_is (i:=rd) (by rfl) rfl rfl R7 (by omega) (by omega) JRD.out ?_))
 have ct:=HK.out.time O7.out.imp
 rw[J1.out.t] at ct
 refine Calls.mono ct ?_
 rintro e w8 ⟨rfl,b8⟩
 have O8:Hid _:=O7.out.below HK.out b8
 clear b8 O7 R7 ct
 by_cases hn:t=128
 ·subst hn
  obtain⟨s2,p2,k32⟩:=jump_same (h:=2) (by decide) hr J1.out HW.out
  have K32:Hid _:=k32
  clear k32
  have st:=One.step HK.out O8.out (by decide) (by decide) (by decide) no_lates
  rw[p2] at st
  have st2:Hid _:=st
  clear st p2
  go_wp2_with fail
  refine Calls.mono st2.out ?_
  rintro e w9 ⟨rfl,F9,o9,-,-⟩
  have O9:Hid (One Is w [] p 64 2 w9 F9 s2 (lone 32 W) []):=o9
  clear o9 O8 st2
  go_wp2_with fail
  refine Calls.mono (HK.out.regs O9.out.imp) ?_
  rintro e w10 ⟨rfl,b10⟩
  have O10:Hid _:=O9.out.below HK.out b10
  clear b10 O9
  go_wp2_with (first | (refine z4p rfl 37 (.tmp 17) (.tmp 104) rfl rfl (z0c _ _) rfl 37 _ (by rw[z0b];exact z0o) (by rw[z8d,z0b,z0b]) (z0s _ _) ?_))
  intro w11 R11 b11
  have O11:Hid _:=O10.out.below HK.out b11
  clear b11 O10
  generalize w10.heap.size=rb2 at *
  go_wp2_with (first | (refine wpList_load_reg_is (i:=32) (by rfl) rfl rfl R11 (by omega) (by omega) K32.out ?_))
  refine Calls.mono (kawake6 HK.out _) ?_
  rintro e w12 ⟨rfl,b12⟩
  have O12:Hid _:=O11.out.below HK.out b12
  go_wp2
  go_ret
  exact⟨rfl,O12.out.bel⟩
 ·have hn2:(t==128)=false:=by simp[hn]
  obtain⟨s2,p2,k39,k40,k38,k32⟩:=jump_none (W:=W) J1.out ht h4 hn (by rw[HW.out];exact putN_u _)
  have K39:Hid _:=k39
  have K40:Hid _:=k40
  have K38:Hid _:=k38
  have K32:Hid _:=k32
  clear k39 k40 k38 k32
  have st:=One.step HK.out O8.out (by decide) (by decide) (by decide) no_lates
  rw[p2] at st
  have st2:Hid _:=st
  clear st p2
  go_wp2_with fail
  refine Calls.mono st2.out ?_
  rintro e w9 ⟨rfl,F9,o9,-,-⟩
  have O9:Hid (One Is w [] p 64 2 w9 F9 s2 (lone 32 W) []):=o9
  clear o9 O8 st2
  go_wp2_with fail
  refine Calls.mono (HK.out.regs O9.out.imp) ?_
  rintro e w10 ⟨rfl,b10⟩
  have O10:Hid _:=O9.out.below HK.out b10
  clear b10 O9
  go_wp2_with (first | (refine z4p rfl 37 (.tmp 17) (.tmp 104) rfl rfl (z0c _ _) rfl 37 _ (by rw[z0b];exact z0o) (by rw[z8d,z0b,z0b]) (z0s _ _) ?_))
  intro w11 R11 b11
  have O11:Hid _:=O10.out.below HK.out b11
  clear b11 O10
  generalize w10.heap.size=rb2 at *
  go_wp2_with (first | (refine wpList_load_reg_is (i:=39) (by rfl) rfl rfl R11 (by omega) (by omega) K39.out ?_) | (refine wpList_load_reg_is (i:=40) (by rfl) rfl rfl R11 (by omega) (by omega) K40.out ?_) | (refine wpList_load_reg_is (i:=38) (by rfl) rfl rfl R11 (by omega) (by omega) K38.out ?_) | (refine wpList_load_reg_is (i:=32) (by rfl) rfl rfl R11 (by omega) (by omega) K32.out ?_))
  refine Calls.mono (kawake6 HK.out _) ?_
  rintro e w12 ⟨rfl,b12⟩
  have O12:Hid _:=O11.out.below HK.out b12
  go_wp2
  go_ret
  exact⟨rfl,O12.out.bel⟩
theorem jumps2h {Is:z6d} (K:CoreK Is) (to d how t:Int) (rd:Nat) (hto:0≤to∧to≤255) (hd:0≤d∧d≤255) (e1:1+d%31=(rd:Int)) (e2:to%60*4+2=t) (th:how.tmod 3=2) (w:World) :
  Calls Tryz.prog 8 #[.int .u8 to,.int .u8 d,.int .u8 how,.bool true] w fun e w'=>e=.returned (.bool true)∧Below w.heap.size w w':=by
 have HK:Hid _:=K
 have tt:to.tmod 60=to%60:=Int.tmod_eq_emod_of_nonneg hto.1
 have td:d.tmod 31=d%31:=Int.tmod_eq_emod_of_nonneg hd.1
 have hr0:0<rd:=by omega
 have hr:rd<32:=by omega
 have i5:(0:Int)≤(rd:Int):=by omega
 have i7:(rd:Int)<32:=by omega
 have ht:0≤t∧t<240:=by omega
 have h2:t%2=0:=by omega
 have ho:=or_odd ht h2
 have h4:¬t%4=0:=by omega
 obtain⟨W,hW⟩:∃ W,W=putN (jumpI 2 rd t):=⟨_,rfl⟩
 have hWu:U32 W:=by rw[hW];exact putN_u _
 have CW:Hid (∀ V:World,Calls Tryz.prog 12 #[.agg #[.string ⟨#[98,101,113]⟩,.int .i64 0,.int .i64 0,.int .i64 0,.int .i32 (t-128)]] V fun e w'=>e=.returned (.int .u32 W)∧Below V.heap.size V w'):=fun V=>by
  have:=kWord ⟨#[98,101,113]⟩ 0 0 0 (t-128) V
  rw[ByteArray.toList_eq] at this
  rw[hW]
  exact this
 obtain⟨s1,p1,j1⟩:=jump_plain (h:=2) (by decide) hr0 hr ht h2 hW
 have P1:Hid _:=p1
 have J1:Hid _:=j1
 have j32:s1.f 32=t:=j1.pc
 have jrd:s1.f rd=0:=j1.link hr0 hr
 have J32:Hid _:=j32
 have JRD:Hid _:=jrd
 have HU:Hid (∀ j,U32 (z0p (lone 32 W) j)):=lone_u 32 hWu
 have HW:Hid _:=hW
 have hq:=eqPtr2
 have hmk:∀ w,(Instr.makeSlice 22 (.int .i64 64) (.int .i64 64)).run Tryz.prog w=.ok (.slice (some ⟨w.heap.size,0,none⟩) 64 64) (w.alloc (.cells (wordsC (noughts 64)) 31)):=fun w=>by kernel_rfl
 clear K p1 j1 hW hWu j32 jrd
 go_enter Tryz.func8,Tryz.ntmps8
 go_wp2_with fail
 have A0:=z0g w (.cells (wordsC (noughts 64)) 31)
 have B0:Hid (Below w.heap.size w (w.alloc (.cells (wordsC (noughts 64)) 31))):=(Below.refl _ _).alloc (Nat.le_refl _) _
 generalize w.alloc (.cells (wordsC (noughts 64)) 31)=w0 at *
 obtain⟨g,hg⟩:∃ g,g=w.heap.size:=⟨_,rfl⟩
 have HG:Hid _:=hg
 rw[← hg]
 rw[← hg] at A0
 clear hg
 refine (CW.out _).mono ?_
 rintro e w1 ⟨rfl,b1⟩
 have A1:=z0f A0 b1
 have B1:Hid _:=z0e B0.out b1
 clear A0 B0 b1 CW
 go_wp2_with (first | (refine wpList_store_word rfl rfl rfl rfl A1 (by decide) ?_;intro w2 A2 HO HL HS;have B2:Hid _:=HL w.heap.size w (by rw[HG.out];exact Nat.le_refl _) B1.out;clear HO HL HS A1 B1))
 have hc:=words_cells A2
 have hb:=(Array.getElem?_eq_some_iff.1 A2).1
 refine Calls.mono (One.new HK.out g 0 64 (lone 32 W) (.slice none 0 0) [] B2.out (by rw[lone_len];decide) (by rw[lone_len];decide) HU.out hb hc (no_late _) (by decide)) ?_
 rintro e w3 ⟨p,F3,rfl,o3,-,-⟩
 rw[lone_len] at o3
 have O3:Hid _:=o3
 clear hc hb A2 B2 o3
 go_wp2_with (first | (go_at_call 13;refine (zErr6 _ _).mono ?_;rintro e wq ⟨rfl,hwq⟩;rw[hwq];clear hwq wq) | (refine wpList_built57 rfl _ rfl _ rfl _ _ (built_jump 128) ?_))
 refine Calls.mono (One.put HK.out O3.out (set1 (set1 (fun _=>0) 32 128) 36 252) false (z4m (z4m (fun _=>(⟨by decide,by decide⟩:U32 0)) 32 ⟨by decide,by decide⟩) 36 ⟨by decide,by decide⟩)) ?_
 rintro e w4 ⟨rfl,F4,o4,-,-⟩
 have O4:Hid (One Is w [] p 64 0 w4 F4 (begC jumpF false) (lone 32 W) []):=o4
 clear o4 O3
 go_wp2_with fail
 have st:=One.step HK.out O4.out (by decide) (by decide) (by decide) no_lates
 rw[P1.out] at st
 refine Calls.mono st ?_
 rintro e w5 ⟨rfl,F5,o5,-,-⟩
 have O5:Hid (One Is w [] p 64 1 w5 F5 s1 (lone 32 W) []):=o5
 clear o5 O4 st
 go_wp2_with fail
 refine Calls.mono (HK.out.regs O5.out.imp) ?_
 rintro e w6 ⟨rfl,b6⟩
 have O6:Hid _:=O5.out.below HK.out b6
 clear b6 O5
 go_wp2_with (first | (refine z4p rfl 37 (.tmp 15) (.tmp 78) rfl rfl (z0c _ _) rfl 37 _ (by rw[z0b];exact z0o) (by rw[z8d,z0b,z0b]) (z0s _ _) ?_))
 intro w7 R7 b7
 have O7:Hid _:=O6.out.below HK.out b7
 clear b7 O6
 generalize w6.heap.size=rb at *
 go_wp2_with (first | (refine wpList_load_reg_is (i:=32) (by rfl) rfl rfl R7 (by omega) (by omega) J32.out ?_) | (refine wpList_load_reg_is (i:=rd) (by rfl) rfl rfl R7 (by omega) (by omega) JRD.out ?_))
 have ct:=HK.out.time O7.out.imp
 rw[J1.out.t] at ct
 refine Calls.mono ct ?_
 rintro e w8 ⟨rfl,b8⟩
 have O8:Hid _:=O7.out.below HK.out b8
 clear b8 O7 R7 ct
 obtain⟨s2,p2,k39,k40,k38,k32⟩:=jump_odd J1.out h4 (lone 32 W)
 have K39:Hid _:=k39
 have K40:Hid _:=k40
 have K38:Hid _:=k38
 have K32:Hid _:=k32
 clear k39 k40 k38 k32
 have st:=One.step HK.out O8.out (by decide) (by decide) (by decide) no_lates
 rw[p2] at st
 have st2:Hid _:=st
 clear st p2
 go_wp2_with fail
 refine Calls.mono st2.out ?_
 rintro e w9 ⟨rfl,F9,o9,-,-⟩
 have O9:Hid (One Is w [] p 64 2 w9 F9 s2 (lone 32 W) []):=o9
 clear o9 O8 st2
 go_wp2_with fail
 refine Calls.mono (HK.out.regs O9.out.imp) ?_
 rintro e w10 ⟨rfl,b10⟩
 have O10:Hid _:=O9.out.below HK.out b10
 clear b10 O9
 go_wp2_with (first | (refine z4p rfl 37 (.tmp 17) (.tmp 104) rfl rfl (z0c _ _) rfl 37 _ (by rw[z0b];exact z0o) (by rw[z8d,z0b,z0b]) (z0s _ _) ?_))
 intro w11 R11 b11
 have O11:Hid _:=O10.out.below HK.out b11
 clear b11 O10
 generalize w10.heap.size=rb2 at *
 go_wp2_with (first | (refine wpList_load_reg_is (i:=39) (by rfl) rfl rfl R11 (by omega) (by omega) K39.out ?_) | (refine wpList_load_reg_is (i:=40) (by rfl) rfl rfl R11 (by omega) (by omega) K40.out ?_) | (refine wpList_load_reg_is (i:=38) (by rfl) rfl rfl R11 (by omega) (by omega) K38.out ?_) | (refine wpList_load_reg_is (i:=32) (by rfl) rfl rfl R11 (by omega) (by omega) K32.out ?_))
 refine Calls.mono (kawake6 HK.out _) ?_
 rintro e w12 ⟨rfl,b12⟩
 have O12:Hid _:=O11.out.below HK.out b12
 go_wp2
 go_ret
 exact⟨rfl,O12.out.bel⟩
theorem coreJumps {Is:z6d} (K:CoreK Is) (to d how:Int) (half:Bool) (hto:0≤to∧to≤255) (hd:0≤d∧d≤255) (hh:0≤how∧how≤255) (w:World) :
  Calls Tryz.prog 8 #[.int .u8 to,.int .u8 d,.int .u8 how,.bool half] w fun e w'=>e=.returned (.bool true)∧Below w.heap.size w w':=by
 have th:how.tmod 3=how%3:=Int.tmod_eq_emod_of_nonneg hh.1
 obtain⟨rd,hr⟩:=Int.eq_ofNat_of_zero_le (show 0≤1+d%31 by omega)
 rcases (by omega:how%3=0∨how%3=1∨how%3=2) with e | e | e <;> rw[e] at th <;> cases half
 ·exact jumps0w K to d how _ rd hto hd hr rfl th w
 ·exact jumps0h K to d how _ rd hto hd hr rfl th w
 ·exact jumps1w K to d how _ rd hto hd hr rfl th w
 ·exact jumps1h K to d how _ rd hto hd hr rfl th w
 ·exact jumps2w K to d how _ rd hto hd hr rfl th w
 ·exact jumps2h K to d how _ rd hto hd hr rfl th w
end Go.Proofs.YtilcoimelnpkeaaGreatDoor
