/-
  Contracts of functions that the statement reaches, and what they are made of, callees first.
-/
import Derived.Test.YtilcoimelnpkeaaGreatDoorPzs
import Derived.Test.YtilcoimelnpkeaaGreatDoorPzt
set_option maxRecDepth 100000
set_option maxHeartbeats 8000000
namespace Go.Proofs.YtilcoimelnpkeaaGreatDoor
open Go.RowKit
def TimL (Is:z6d) (w:World) (on user:Bool) (after late:Int) (p k:Nat) (wr:World):Prop:=
 ∃ n s F,n≤8∧TimSt user on after n s∧One Is w [late,-5] p 40 (2+k) wr F s timW []∧6+(k:Int)≤s.t∧s.t≤6+2*(k:Int)∧(on=true→k≤251)
theorem field_U (f:Nat→Int) (u:Bool) (w:World):(Instr.field 37 (.agg (z0c f u)) 2).run Tryz.prog w=.ok (.bool u) w:=by kernel_rfl
theorem field_P (f:Nat→Int) (u:Bool) (w:World):(Instr.field 37 (.agg (z0c f u)) 1).run Tryz.prog w=.ok (.int .u32 (f 32)) w:=by kernel_rfl
theorem timersmn {Is:z6d} (K:CoreK Is) (after late:Int) (ha:0≤after∧after≤255) (hl:0≤late∧late≤255) (w:World) :
  Calls Tryz.prog 4 #[.int .u8 after,.int .u8 late,.bool false,.bool true] w fun e w'=>e=.returned (.bool true)∧Below w.heap.size w w':=by
 have HK:Hid _:=K
 have CA:Hid (∀ V:World,Calls Tryz.prog 12 #[.agg #[.string ⟨#[97,100,100,105]⟩,.int .i64 1,.int .i64 1,.int .i64 0,.int .i32 1]] V fun e w'=>e=.returned (.int .u32 addW)∧Below V.heap.size V w'):=fun V=>by
  have:=kWord ⟨#[97,100,100,105]⟩ 1 1 0 1 V
  rw[ByteArray.toList_eq] at this
  exact this
 have CJ:Hid (∀ V:World,Calls Tryz.prog 12 #[.agg #[.string ⟨#[106,97,108]⟩,.int .i64 0,.int .i64 0,.int .i64 0,.int .i32 (-32)]] V fun e w'=>e=.returned (.int .u32 jalW)∧Below V.heap.size V w'):=fun V=>by
  have:=kWord ⟨#[106,97,108]⟩ 0 0 0 (-32) V
  rw[ByteArray.toList_eq] at this
  exact this
 have CS:Hid (∀ V:World,Calls Tryz.prog 12 #[.agg #[.string ⟨#[115,119]⟩,.int .i64 0,.int .i64 2,.int .i64 3,.int .i32 0]] V fun e w'=>e=.returned (.int .u32 swW)∧Below V.heap.size V w'):=fun V=>by
  have:=kWord ⟨#[115,119]⟩ 0 2 3 0 V
  rw[ByteArray.toList_eq] at this
  exact this
 have CM:Hid (∀ V:World,Calls Tryz.prog 12 #[.agg #[.string ⟨#[109,114,101,116]⟩,.int .i64 0,.int .i64 0,.int .i64 0,.int .i32 0]] V fun e w'=>e=.returned (.int .u32 mretW)∧Below V.heap.size V w'):=fun V=>by
  have:=kWord ⟨#[109,114,101,116]⟩ 0 0 0 0 V
  rw[ByteArray.toList_eq] at this
  exact this
 have eF:set1 (set1 (set1 (set1 (set1 (set1 (set1 (set1 (fun _=>0) 32 80) 36 128) 35 128) 34 136) 34 6272) 2 1073741824) 3 after) 42 161=timF (stOf false) (ieOf true) after:=by
  funext i
  unfold timF stOf ieOf
  simp only[set1]
  by_cases e42:i=42
  ·subst e42;rfl
  by_cases e3:i=3
  ·subst e3;rfl
  by_cases e2:i=2
  ·subst e2;rfl
  by_cases e35:i=35
  ·subst e35;rfl
  by_cases e34:i=34
  ·subst e34;rfl
  by_cases e36:i=36
  ·subst e36;rfl
  by_cases e32:i=32
  ·subst e32;rfl
  simp only[if_neg e42,if_neg e3,if_neg e2,if_neg e35,if_neg e34,if_neg e36,if_neg e32]
 have EF:Hid _:=eF
 have HF:Hid (∀ i,U32 ((set1 (set1 (set1 (set1 (set1 (set1 (set1 (set1 (fun _=>0) 32 80) 36 128) 35 128) 34 136) 34 6272) 2 1073741824) 3 after) 42 161) i)):=z4m (z4m (z4m (z4m (z4m (z4m (z4m (z4m (fun _=>(⟨by decide,by decide⟩:U32 0)) 32 ⟨by decide,by decide⟩) 36 ⟨by decide,by decide⟩) 35 ⟨by decide,by decide⟩) 34 ⟨by decide,by decide⟩) 34 ⟨by decide,by decide⟩) 2 ⟨by decide,by decide⟩) 3 ⟨by omega,by omega⟩) 42 ⟨by decide,by decide⟩
 obtain⟨s1,p1,h1⟩:=tim_one false true after [late,-5]
 obtain⟨s2,p2,h2,ht2⟩:=tim_two h1 [late,-5]
 have P1:Hid _:=p1
 have P2:Hid _:=p2
 have H1:Hid _:=h1
 have H2:Hid _:=h2
 have HT2:Hid _:=ht2
 have HLT:Hid (∀ i,([late,-5]:List Int).getD i 0≤2097152):=fun i=>by
  rcases i with _ | _ | i
  ·show late≤2097152;omega
  ·show (-5:Int)≤2097152;decide
  ·show (0:Int)≤2097152;decide
 have HL0:Hid (0≤late):=hl.1
 have hq:=eqPtr2
 have hmk:∀ w,(Instr.makeSlice 22 (.int .i64 40) (.int .i64 40)).run Tryz.prog w=.ok (.slice (some ⟨w.heap.size,0,none⟩) 40 40) (w.alloc (.cells (wordsC (timA 0)) 31)):=fun w=>by kernel_rfl
 obtain⟨fs,hfs⟩:=z3f
 have HS:Hid _:=hfs
 have A0:Hid ((w.alloc (.cells (wordsC (timA 0)) 31)).heap[w.heap.size]?=some (.cells (wordsC (timA 0)) 31)):=z0g w _
 have B0:Hid (Below w.heap.size w (w.alloc (.cells (wordsC (timA 0)) 31))):=(Below.refl _ _).alloc (Nat.le_refl _) _
 clear K eF p1 p2 h1 h2 ht2 hfs
 go_enter Tryz.func4,Tryz.ntmps4
 go_wp2_with fail
 go_loopw [10] (fun i wr=>∃ k:Nat,k≤8∧i=.int .i64 k∧Hid (wr.heap[w.heap.size]?=some (.cells (wordsC (timA k)) 31)∧Below w.heap.size w wr)) (fun i _=>8-(intOf i).toNat)
 case atStart=>exact⟨0,Nat.zero_le _,rfl,A0.out,B0.out⟩
 case round=>
  clear A0 B0
  obtain⟨k,hk,rfl,hr⟩:=hrel
  by_cases hlt:k<8
  ·have i5:(0:Int)≤(k:Int):=by omega
   have i7:(k:Int)<40:=by omega
   go_wp2_with fail
   refine (CA.out _).mono ?_
   rintro e w1 ⟨rfl,b1⟩
   have A1:=z0f hr.out.1 b1
   have B1:Hid _:=z0e hr.out.2 b1
   clear b1 hr
   go_wp2_with (first | (refine wpList_store_word rfl rfl rfl rfl A1 (by rw[timA_len];omega) ?_;intro w2 A2 HO HL HS;have B2:Hid _:=HL w.heap.size w (Nat.le_refl _) B1.out;clear HO HL HS A1 B1))
   exact⟨⟨k+1,hlt,by go_num,A2,B2.out⟩,by simp[intOf];omega⟩
  ·have hk8:k=8:=by omega
   subst hk8
   go_wp2_with fail
   refine (CJ.out _).mono ?_
   rintro e w1 ⟨rfl,b1⟩
   have A1:=z0f hr.out.1 b1
   have B1:Hid _:=z0e hr.out.2 b1
   clear b1 hr CA CJ
   go_wp2_with (first | (refine wpList_store_word rfl rfl rfl rfl A1 (by rw[timA_len];decide) ?_;intro w2 A2 HO HL HS;have B2:Hid _:=HL w.heap.size w (Nat.le_refl _) B1.out;clear HO HL HS A1 B1))
   refine (CS.out _).mono ?_
   rintro e w3 ⟨rfl,b1⟩
   have A3:=z0f A2 b1
   have B3:Hid _:=z0e B2.out b1
   clear b1 CS A2 B2
   go_wp2_with (first | (refine wpList_store_word rfl rfl rfl rfl A3 (by rw[List.length_set,timA_len];decide) ?_;intro w4 A4 HO HL HS;have B4:Hid _:=HL w.heap.size w (Nat.le_refl _) B3.out;clear HO HL HS A3 B3))
   refine (CM.out _).mono ?_
   rintro e w5 ⟨rfl,b1⟩
   have A5:=z0f A4 b1
   have B5:Hid _:=z0e B4.out b1
   clear b1 CM A4 B4
   go_wp2_with (first | (refine wpList_store_word rfl rfl rfl rfl A5 (by rw[List.length_set,List.length_set,timA_len];decide) ?_;intro w6 A6 HO HL HS;have B6:Hid _:=HL w.heap.size w (Nat.le_refl _) B5.out;clear HO HL HS A5 B5))
   have a7:Below w6.heap.size w6 (w6.alloc (.cells #[.int .i64 late,.int .i64 (-5)] 3)):=(Below.refl _ _).alloc (Nat.le_refl _) _
   have L7:=z0g w6 (.cells #[.int .i64 late,.int .i64 (-5)] 3)
   have A7:(w6.alloc (.cells #[.int .i64 late,.int .i64 (-5)] 3)).heap[w.heap.size]?=some (.cells (wordsC timW) 31):=z0f A6 a7
   have B7:Hid _:=z0e B6.out a7
   clear a7 A6 B6
   generalize w6.alloc (.cells #[.int .i64 late,.int .i64 (-5)] 3)=w7 at *
   generalize w6.heap.size=lb at *
   have hc:=words_cells A7
   have hb:=(Array.getElem?_eq_some_iff.1 A7).1
   have hlate:z9l w7 (.slice (some ⟨lb,0,none⟩) 2 2) [late,-5]:=⟨_,2,lb,0,rfl,fun _=>⟨rfl,(Array.getElem?_eq_some_iff.1 L7).1,fun i hi=>by
    have hi:i<2:=hi
    refine (z0a L7).1 _ _ ?_
    rcases (by omega:i=0∨i=1) with rfl | rfl <;> rfl⟩⟩
   refine Calls.mono (One.new HK.out w.heap.size 0 40 timW (.slice (some ⟨lb,0,none⟩) 2 2) [late,-5] B7.out (by rw[timW_len];decide) (by rw[timW_len];decide) timW_u hb hc hlate (show 2≤1000 by decide)) ?_
   rintro e w8 ⟨p,F8,rfl,o8,-,-⟩
   rw[timW_len] at o8
   have O8:Hid _:=o8
   clear hc hb A7 B7 o8 L7 hlate
   go_wp2_with (first | (go_at_call 13;refine (zErr6 _ _).mono ?_;rintro e wq ⟨rfl,hwq⟩;rw[hwq];clear hwq wq) | (refine z4p rfl 37 (.tmp 13) (.tmp 57) rfl rfl (z0c (set1 (set1 (set1 (set1 (fun _=>0) 32 80) 36 128) 35 128) 34 136) false) rfl 37 _ (by rw[z0b];exact z0o) (by rw[z8d,z0b,z0b]) (z0s _ _) ?_))
   intro w9 R9 b9
   go_wp2_with (first | (refine z0h rfl rfl rfl rfl (by assumption) (by decide) (by decide) ?_;intro wn Rn HO HL;have Bn:=HL w8.heap.size w8 (Nat.le_refl _) (by assumption);clear HO HL) | (refine z7d (by rfl) 37 (.tmp 13) rfl w8.heap.size rfl 37 (z0c (set1 (set1 (set1 (set1 (set1 (set1 (set1 (set1 (fun _=>0) 32 80) 36 128) 35 128) 34 136) 34 6272) 2 1073741824) 3 after) 42 161) false) _ (by assumption) HS.out rfl (by rw[z0b];exact z0o) ?_))
   have O9:Hid _:=O8.out.below HK.out Bn
   clear Bn Rn b9 R9 O8
   refine Calls.mono (One.put HK.out O9.out (set1 (set1 (set1 (set1 (set1 (set1 (set1 (set1 (fun _=>0) 32 80) 36 128) 35 128) 34 136) 34 6272) 2 1073741824) 3 after) 42 161) false HF.out) ?_
   rintro e w10 ⟨rfl,F10,o10,-,-⟩
   have O10:Hid (One Is w [late,-5] p 40 0 w10 F10 (begC (timF (stOf false) (ieOf true) after) false) timW []):=by
    rw[EF.out] at o10
    exact o10
   clear o10 O9 HF EF
   go_wp2_with fail
   have st:=One.step HK.out O10.out (by decide) (by decide) (by decide) HLT.out
   rw[P1.out] at st
   refine Calls.mono st ?_
   rintro e w11 ⟨rfl,F11,o11,-,-⟩
   have O11:Hid (One Is w [late,-5] p 40 1 w11 F11 s1 timW []):=o11
   clear o11 O10 st
   go_wp2_with fail
   have ct:=HK.out.time O11.out.imp
   rw[H1.out.t] at ct
   refine Calls.mono ct ?_
   rintro e w12 ⟨rfl,b12⟩
   have O12:Hid _:=O11.out.below HK.out b12
   clear b12 O11 ct
   go_wp2_with fail
   have st:=One.step HK.out O12.out (by decide) (by decide) (by decide) HLT.out
   rw[P2.out] at st
   refine Calls.mono st ?_
   rintro e w13 ⟨rfl,F13,o13,-,-⟩
   have O13:Hid (One Is w [late,-5] p 40 2 w13 F13 s2 timW []):=o13
   clear o13 O12 st P1 P2 H1
   have hfu:=field_U s2.f s2.u
   have hfp:=field_P s2.f s2.u
   have hu2:s2.u=false:=H2.out.u
   have hp2:s2.f 32=0:=H2.out.pc
   rw[hu2] at hfu hfp
   rw[hp2] at hfp
   go_wp2_with fail
   refine Calls.mono (HK.out.regs O13.out.imp) ?_
   rintro e w14 ⟨rfl,b14⟩
   rw[hu2]
   have O14:Hid _:=O13.out.below HK.out b14
   clear b14 O13
   go_wp2_with fail
   refine Calls.mono (HK.out.regs O14.out.imp) ?_
   rintro e w15 ⟨rfl,b15⟩
   rw[hu2]
   have O15:Hid _:=O14.out.below HK.out b15
   clear b15 O14
   have hu2':Hid _:=hu2
   clear hu2 hp2
   go_wp2_with fail
   clear hfu hfp
   have L0:Hid (TimL Is w true false after late p 0 w15):=⟨0,s2,F13,Nat.zero_le _,H2.out,O15.out,by rw[HT2.out];decide,by rw[HT2.out];decide,fun _=>Nat.zero_le _⟩
   clear H2 O15 HT2
   go_loopw [15] (fun i wr=>∃ k:Nat,k≤500∧i=.int .i64 k∧Hid (TimL Is w true false after late p k wr)) (fun i _=>500-(intOf i).toNat)
   case atStart=>exact⟨0,Nat.zero_le _,rfl,L0.out⟩
   case round=>
    clear L0
    obtain⟨k,hk,rfl,hr⟩:=hrel
    obtain⟨n,s,F,hn,hT,hO,t0,t1,hon⟩:=hr.out
    have O20:Hid _:=hO
    have HT:Hid _:=hT
    clear hr hO hT
    obtain⟨tt,htt⟩:∃ tt,tt=s.t:=⟨_,rfl⟩
    rw[← htt] at t0 t1
    have HTT:Hid _:=htt
    clear htt
    by_cases hlt:k<500
    ·have ct:=HK.out.time O20.out.imp
     rw[← HTT.out] at ct
     have CT:Hid _:=ct
     clear ct
     go_wp2_with fail
     refine Calls.mono CT.out ?_
     rintro e w21 ⟨rfl,b21⟩
     have O21:Hid _:=O20.out.below HK.out b21
     clear b21 O20 CT
     by_cases hd:2+after≤tt
     ·obtain⟨s',p1,k32,k39,k40,ku,kt⟩:=tim_comes HT.out HL0.out (by rw[← HTT.out];exact hd)
      have hfp:=field_P s'.f s'.u
      rw[k32] at hfp
      have K39:Hid _:=k39
      have K40:Hid _:=k40
      have KU:Hid _:=ku
      have K32:Hid _:=k32
      rw[← HTT.out] at kt
      have KT:Hid _:=kt
      have st:=One.step HK.out O21.out (by decide) (by decide) (by omega) HLT.out
      rw[p1] at st
      have ST:Hid _:=st
      clear st p1 k32 k39 k40 ku kt
      go_wp2_with fail
      refine Calls.mono ST.out ?_
      rintro e w22 ⟨rfl,F22,o22,-,-⟩
      have O22:Hid (One Is w [late,-5] p 40 (2+k+1) w22 F22 s' timW []):=o22
      clear o22 O21 ST
      go_wp2_with fail
      refine Calls.mono (HK.out.regs O22.out.imp) ?_
      rintro e w23 ⟨rfl,b23⟩
      have O23:Hid _:=O22.out.below HK.out b23
      clear b23 O22
      go_wp2_with fail
      refine Calls.mono (HK.out.regs O23.out.imp) ?_
      rintro e w24 ⟨rfl,b24⟩
      have O24:Hid _:=O23.out.below HK.out b24
      clear b24 O23 hfp
      go_wp2_with (first | (refine z4p rfl 37 (.tmp 19) (.tmp 118) rfl rfl (z0c _ _) rfl 37 _ (by rw[z0b];exact z0o) (by rw[z8d,z0b,z0b]) (z0s _ _) ?_))
      intro w25 R25 b25
      have O25:Hid _:=O24.out.below HK.out b25
      clear b25 O24
      generalize w24.heap.size=rb at *
      have ct:=HK.out.time O25.out.imp
      rw[KT.out] at ct
      have CT:Hid _:=ct
      clear ct
      go_wp2_with (first | (refine wpList_load_reg_is (i:=39) (by rfl) rfl rfl R25 (by omega) (by omega) K39.out ?_) | (refine wpList_load_reg_is (i:=40) (by rfl) rfl rfl R25 (by omega) (by omega) K40.out ?_) | (refine wpList_user_is (by rfl) rfl rfl R25 KU.out ?_))
      refine Calls.mono CT.out ?_
      rintro e w26 ⟨rfl,b26⟩
      have O26:Hid _:=O25.out.below HK.out b26
      clear b26 O25 CT R25
      go_wp2_with fail
      refine Calls.mono (kawake6 HK.out _) ?_
      rintro e w27 ⟨rfl,b27⟩
      have O27:Hid _:=O26.out.below HK.out b27
      go_wp2
      go_ret
      exact⟨rfl,O27.out.bel⟩
     ·obtain⟨s',n',p1,hT',hn',g1,g2⟩:=tim_goes HT.out hn (by rw[← HTT.out];rw[decide_eq_false hd];rfl) [late,-5]
      have hfp:=field_P s'.f s'.u
      have AW:Hid _:=hT'.away hn'
      rw[← HTT.out] at g1 g2
      have st:=One.step HK.out O21.out (by decide) (by decide) (by omega) HLT.out
      rw[p1] at st
      have ST:Hid _:=st
      have HT2:Hid _:=hT'
      clear st p1 hT'
      go_wp2_with fail
      refine Calls.mono ST.out ?_
      rintro e w22 ⟨rfl,F22,o22,-,-⟩
      have O22:Hid (One Is w [late,-5] p 40 (2+k+1) w22 F22 s' timW []):=o22
      clear o22 O21 ST
      go_wp2_with fail
      refine Calls.mono (HK.out.regs O22.out.imp) ?_
      rintro e w23 ⟨rfl,b23⟩
      have O23:Hid _:=O22.out.below HK.out b23
      have hne:(s'.f 32==128)=false:=beq_eq_false_iff_ne.2 AW.out
      clear b23 O22
      go_wp2_with fail
      exact⟨⟨k+1,hlt,by go_num,n',s',F22,hn',HT2.out,O23.out,by push_cast;omega,by push_cast;omega,fun _=>by omega⟩,by simp[intOf];omega⟩
    ·have hk5:k=500:=by omega
     subst hk5
     have:=hon rfl
     omega
theorem timersmf {Is:z6d} (K:CoreK Is) (after late:Int) (ha:0≤after∧after≤255) (hl:0≤late∧late≤255) (w:World) :
  Calls Tryz.prog 4 #[.int .u8 after,.int .u8 late,.bool false,.bool false] w fun e w'=>e=.returned (.bool true)∧Below w.heap.size w w':=by
 have HK:Hid _:=K
 have CA:Hid (∀ V:World,Calls Tryz.prog 12 #[.agg #[.string ⟨#[97,100,100,105]⟩,.int .i64 1,.int .i64 1,.int .i64 0,.int .i32 1]] V fun e w'=>e=.returned (.int .u32 addW)∧Below V.heap.size V w'):=fun V=>by
  have:=kWord ⟨#[97,100,100,105]⟩ 1 1 0 1 V
  rw[ByteArray.toList_eq] at this
  exact this
 have CJ:Hid (∀ V:World,Calls Tryz.prog 12 #[.agg #[.string ⟨#[106,97,108]⟩,.int .i64 0,.int .i64 0,.int .i64 0,.int .i32 (-32)]] V fun e w'=>e=.returned (.int .u32 jalW)∧Below V.heap.size V w'):=fun V=>by
  have:=kWord ⟨#[106,97,108]⟩ 0 0 0 (-32) V
  rw[ByteArray.toList_eq] at this
  exact this
 have CS:Hid (∀ V:World,Calls Tryz.prog 12 #[.agg #[.string ⟨#[115,119]⟩,.int .i64 0,.int .i64 2,.int .i64 3,.int .i32 0]] V fun e w'=>e=.returned (.int .u32 swW)∧Below V.heap.size V w'):=fun V=>by
  have:=kWord ⟨#[115,119]⟩ 0 2 3 0 V
  rw[ByteArray.toList_eq] at this
  exact this
 have CM:Hid (∀ V:World,Calls Tryz.prog 12 #[.agg #[.string ⟨#[109,114,101,116]⟩,.int .i64 0,.int .i64 0,.int .i64 0,.int .i32 0]] V fun e w'=>e=.returned (.int .u32 mretW)∧Below V.heap.size V w'):=fun V=>by
  have:=kWord ⟨#[109,114,101,116]⟩ 0 0 0 0 V
  rw[ByteArray.toList_eq] at this
  exact this
 have eF:set1 (set1 (set1 (set1 (set1 (set1 (set1 (set1 (set1 (fun _=>0) 32 80) 36 128) 35 128) 34 136) 34 6272) 35 0) 2 1073741824) 3 after) 42 161=timF (stOf false) (ieOf false) after:=by
  funext i
  unfold timF stOf ieOf
  simp only[set1]
  by_cases e42:i=42
  ·subst e42;rfl
  by_cases e3:i=3
  ·subst e3;rfl
  by_cases e2:i=2
  ·subst e2;rfl
  by_cases e35:i=35
  ·subst e35;rfl
  by_cases e34:i=34
  ·subst e34;rfl
  by_cases e36:i=36
  ·subst e36;rfl
  by_cases e32:i=32
  ·subst e32;rfl
  simp only[if_neg e42,if_neg e3,if_neg e2,if_neg e35,if_neg e34,if_neg e36,if_neg e32]
 have EF:Hid _:=eF
 have HF:Hid (∀ i,U32 ((set1 (set1 (set1 (set1 (set1 (set1 (set1 (set1 (set1 (fun _=>0) 32 80) 36 128) 35 128) 34 136) 34 6272) 35 0) 2 1073741824) 3 after) 42 161) i)):=z4m (z4m (z4m (z4m (z4m (z4m (z4m (z4m (z4m (fun _=>(⟨by decide,by decide⟩:U32 0)) 32 ⟨by decide,by decide⟩) 36 ⟨by decide,by decide⟩) 35 ⟨by decide,by decide⟩) 34 ⟨by decide,by decide⟩) 34 ⟨by decide,by decide⟩) 35 ⟨by decide,by decide⟩) 2 ⟨by decide,by decide⟩) 3 ⟨by omega,by omega⟩) 42 ⟨by decide,by decide⟩
 obtain⟨s1,p1,h1⟩:=tim_one false false after [late,-5]
 obtain⟨s2,p2,h2,ht2⟩:=tim_two h1 [late,-5]
 have P1:Hid _:=p1
 have P2:Hid _:=p2
 have H1:Hid _:=h1
 have H2:Hid _:=h2
 have HT2:Hid _:=ht2
 have HLT:Hid (∀ i,([late,-5]:List Int).getD i 0≤2097152):=fun i=>by
  rcases i with _ | _ | i
  ·show late≤2097152;omega
  ·show (-5:Int)≤2097152;decide
  ·show (0:Int)≤2097152;decide
 have HL0:Hid (0≤late):=hl.1
 have hq:=eqPtr2
 have hmk:∀ w,(Instr.makeSlice 22 (.int .i64 40) (.int .i64 40)).run Tryz.prog w=.ok (.slice (some ⟨w.heap.size,0,none⟩) 40 40) (w.alloc (.cells (wordsC (timA 0)) 31)):=fun w=>by kernel_rfl
 obtain⟨fs,hfs⟩:=z3f
 have HS:Hid _:=hfs
 have A0:Hid ((w.alloc (.cells (wordsC (timA 0)) 31)).heap[w.heap.size]?=some (.cells (wordsC (timA 0)) 31)):=z0g w _
 have B0:Hid (Below w.heap.size w (w.alloc (.cells (wordsC (timA 0)) 31))):=(Below.refl _ _).alloc (Nat.le_refl _) _
 clear K eF p1 p2 h1 h2 ht2 hfs
 go_enter Tryz.func4,Tryz.ntmps4
 go_wp2_with fail
 go_loopw [10] (fun i wr=>∃ k:Nat,k≤8∧i=.int .i64 k∧Hid (wr.heap[w.heap.size]?=some (.cells (wordsC (timA k)) 31)∧Below w.heap.size w wr)) (fun i _=>8-(intOf i).toNat)
 case atStart=>exact⟨0,Nat.zero_le _,rfl,A0.out,B0.out⟩
 case round=>
  clear A0 B0
  obtain⟨k,hk,rfl,hr⟩:=hrel
  by_cases hlt:k<8
  ·have i5:(0:Int)≤(k:Int):=by omega
   have i7:(k:Int)<40:=by omega
   go_wp2_with fail
   refine (CA.out _).mono ?_
   rintro e w1 ⟨rfl,b1⟩
   have A1:=z0f hr.out.1 b1
   have B1:Hid _:=z0e hr.out.2 b1
   clear b1 hr
   go_wp2_with (first | (refine wpList_store_word rfl rfl rfl rfl A1 (by rw[timA_len];omega) ?_;intro w2 A2 HO HL HS;have B2:Hid _:=HL w.heap.size w (Nat.le_refl _) B1.out;clear HO HL HS A1 B1))
   exact⟨⟨k+1,hlt,by go_num,A2,B2.out⟩,by simp[intOf];omega⟩
  ·have hk8:k=8:=by omega
   subst hk8
   go_wp2_with fail
   refine (CJ.out _).mono ?_
   rintro e w1 ⟨rfl,b1⟩
   have A1:=z0f hr.out.1 b1
   have B1:Hid _:=z0e hr.out.2 b1
   clear b1 hr CA CJ
   go_wp2_with (first | (refine wpList_store_word rfl rfl rfl rfl A1 (by rw[timA_len];decide) ?_;intro w2 A2 HO HL HS;have B2:Hid _:=HL w.heap.size w (Nat.le_refl _) B1.out;clear HO HL HS A1 B1))
   refine (CS.out _).mono ?_
   rintro e w3 ⟨rfl,b1⟩
   have A3:=z0f A2 b1
   have B3:Hid _:=z0e B2.out b1
   clear b1 CS A2 B2
   go_wp2_with (first | (refine wpList_store_word rfl rfl rfl rfl A3 (by rw[List.length_set,timA_len];decide) ?_;intro w4 A4 HO HL HS;have B4:Hid _:=HL w.heap.size w (Nat.le_refl _) B3.out;clear HO HL HS A3 B3))
   refine (CM.out _).mono ?_
   rintro e w5 ⟨rfl,b1⟩
   have A5:=z0f A4 b1
   have B5:Hid _:=z0e B4.out b1
   clear b1 CM A4 B4
   go_wp2_with (first | (refine wpList_store_word rfl rfl rfl rfl A5 (by rw[List.length_set,List.length_set,timA_len];decide) ?_;intro w6 A6 HO HL HS;have B6:Hid _:=HL w.heap.size w (Nat.le_refl _) B5.out;clear HO HL HS A5 B5))
   have a7:Below w6.heap.size w6 (w6.alloc (.cells #[.int .i64 late,.int .i64 (-5)] 3)):=(Below.refl _ _).alloc (Nat.le_refl _) _
   have L7:=z0g w6 (.cells #[.int .i64 late,.int .i64 (-5)] 3)
   have A7:(w6.alloc (.cells #[.int .i64 late,.int .i64 (-5)] 3)).heap[w.heap.size]?=some (.cells (wordsC timW) 31):=z0f A6 a7
   have B7:Hid _:=z0e B6.out a7
   clear a7 A6 B6
   generalize w6.alloc (.cells #[.int .i64 late,.int .i64 (-5)] 3)=w7 at *
   generalize w6.heap.size=lb at *
   have hc:=words_cells A7
   have hb:=(Array.getElem?_eq_some_iff.1 A7).1
   have hlate:z9l w7 (.slice (some ⟨lb,0,none⟩) 2 2) [late,-5]:=⟨_,2,lb,0,rfl,fun _=>⟨rfl,(Array.getElem?_eq_some_iff.1 L7).1,fun i hi=>by
    have hi:i<2:=hi
    refine (z0a L7).1 _ _ ?_
    rcases (by omega:i=0∨i=1) with rfl | rfl <;> rfl⟩⟩
   refine Calls.mono (One.new HK.out w.heap.size 0 40 timW (.slice (some ⟨lb,0,none⟩) 2 2) [late,-5] B7.out (by rw[timW_len];decide) (by rw[timW_len];decide) timW_u hb hc hlate (show 2≤1000 by decide)) ?_
   rintro e w8 ⟨p,F8,rfl,o8,-,-⟩
   rw[timW_len] at o8
   have O8:Hid _:=o8
   clear hc hb A7 B7 o8 L7 hlate
   go_wp2_with (first | (go_at_call 13;refine (zErr6 _ _).mono ?_;rintro e wq ⟨rfl,hwq⟩;rw[hwq];clear hwq wq) | (refine z4p rfl 37 (.tmp 13) (.tmp 57) rfl rfl (z0c (set1 (set1 (set1 (set1 (fun _=>0) 32 80) 36 128) 35 128) 34 136) false) rfl 37 _ (by rw[z0b];exact z0o) (by rw[z8d,z0b,z0b]) (z0s _ _) ?_))
   intro w9 R9 b9
   go_wp2_with (first | (refine z0h rfl rfl rfl rfl (by assumption) (by decide) (by decide) ?_;intro wn Rn HO HL;have Bn:=HL w8.heap.size w8 (Nat.le_refl _) (by assumption);clear HO HL) | (refine z7d (by rfl) 37 (.tmp 13) rfl w8.heap.size rfl 37 (z0c (set1 (set1 (set1 (set1 (set1 (set1 (set1 (set1 (set1 (fun _=>0) 32 80) 36 128) 35 128) 34 136) 34 6272) 35 0) 2 1073741824) 3 after) 42 161) false) _ (by assumption) HS.out rfl (by rw[z0b];exact z0o) ?_))
   have O9:Hid _:=O8.out.below HK.out Bn
   clear Bn Rn b9 R9 O8
   refine Calls.mono (One.put HK.out O9.out (set1 (set1 (set1 (set1 (set1 (set1 (set1 (set1 (set1 (fun _=>0) 32 80) 36 128) 35 128) 34 136) 34 6272) 35 0) 2 1073741824) 3 after) 42 161) false HF.out) ?_
   rintro e w10 ⟨rfl,F10,o10,-,-⟩
   have O10:Hid (One Is w [late,-5] p 40 0 w10 F10 (begC (timF (stOf false) (ieOf false) after) false) timW []):=by
    rw[EF.out] at o10
    exact o10
   clear o10 O9 HF EF
   go_wp2_with fail
   have st:=One.step HK.out O10.out (by decide) (by decide) (by decide) HLT.out
   rw[P1.out] at st
   refine Calls.mono st ?_
   rintro e w11 ⟨rfl,F11,o11,-,-⟩
   have O11:Hid (One Is w [late,-5] p 40 1 w11 F11 s1 timW []):=o11
   clear o11 O10 st
   go_wp2_with fail
   have ct:=HK.out.time O11.out.imp
   rw[H1.out.t] at ct
   refine Calls.mono ct ?_
   rintro e w12 ⟨rfl,b12⟩
   have O12:Hid _:=O11.out.below HK.out b12
   clear b12 O11 ct
   go_wp2_with fail
   have st:=One.step HK.out O12.out (by decide) (by decide) (by decide) HLT.out
   rw[P2.out] at st
   refine Calls.mono st ?_
   rintro e w13 ⟨rfl,F13,o13,-,-⟩
   have O13:Hid (One Is w [late,-5] p 40 2 w13 F13 s2 timW []):=o13
   clear o13 O12 st P1 P2 H1
   have hfu:=field_U s2.f s2.u
   have hfp:=field_P s2.f s2.u
   have hu2:s2.u=false:=H2.out.u
   have hp2:s2.f 32=0:=H2.out.pc
   rw[hu2] at hfu hfp
   rw[hp2] at hfp
   go_wp2_with fail
   refine Calls.mono (HK.out.regs O13.out.imp) ?_
   rintro e w14 ⟨rfl,b14⟩
   rw[hu2]
   have O14:Hid _:=O13.out.below HK.out b14
   clear b14 O13
   go_wp2_with fail
   refine Calls.mono (HK.out.regs O14.out.imp) ?_
   rintro e w15 ⟨rfl,b15⟩
   rw[hu2]
   have O15:Hid _:=O14.out.below HK.out b15
   clear b15 O14
   have hu2':Hid _:=hu2
   clear hu2 hp2
   go_wp2_with fail
   clear hfu hfp
   have L0:Hid (TimL Is w false false after late p 0 w15):=⟨0,s2,F13,Nat.zero_le _,H2.out,O15.out,by rw[HT2.out];decide,by rw[HT2.out];decide,fun _=>Nat.zero_le _⟩
   clear H2 O15 HT2
   go_loopw [15] (fun i wr=>∃ k:Nat,k≤500∧i=.int .i64 k∧Hid (TimL Is w false false after late p k wr)) (fun i _=>500-(intOf i).toNat)
   case atStart=>exact⟨0,Nat.zero_le _,rfl,L0.out⟩
   case round=>
    clear L0
    obtain⟨k,hk,rfl,hr⟩:=hrel
    obtain⟨n,s,F,hn,hT,hO,t0,t1,hon⟩:=hr.out
    have O20:Hid _:=hO
    have HT:Hid _:=hT
    clear hr hO hT
    obtain⟨tt,htt⟩:∃ tt,tt=s.t:=⟨_,rfl⟩
    rw[← htt] at t0 t1
    have HTT:Hid _:=htt
    clear htt
    by_cases hlt:k<500
    ·have ct:=HK.out.time O20.out.imp
     rw[← HTT.out] at ct
     have CT:Hid _:=ct
     clear ct
     go_wp2_with fail
     refine Calls.mono CT.out ?_
     rintro e w21 ⟨rfl,b21⟩
     have O21:Hid _:=O20.out.below HK.out b21
     clear b21 O20 CT
     by_cases hd:2+after≤tt
     ·obtain⟨s',n',p1,hT',hn',g1,g2⟩:=tim_goes HT.out hn (by rw[← HTT.out];exact Bool.and_false _) [late,-5]
      have hfp:=field_P s'.f s'.u
      have AW:Hid _:=hT'.away hn'
      rw[← HTT.out] at g1 g2
      have st:=One.step HK.out O21.out (by decide) (by decide) (by omega) HLT.out
      rw[p1] at st
      have ST:Hid _:=st
      have HT2:Hid _:=hT'
      clear st p1 hT'
      go_wp2_with fail
      refine Calls.mono ST.out ?_
      rintro e w22 ⟨rfl,F22,o22,-,-⟩
      have O22:Hid (One Is w [late,-5] p 40 (2+k+1) w22 F22 s' timW []):=o22
      clear o22 O21 ST
      go_wp2_with fail
      refine Calls.mono (HK.out.regs O22.out.imp) ?_
      rintro e w23 ⟨rfl,b23⟩
      have O23:Hid _:=O22.out.below HK.out b23
      have hne:(s'.f 32==128)=false:=beq_eq_false_iff_ne.2 AW.out
      clear b23 O22
      go_wp2_with fail
      exact⟨⟨k+1,hlt,by go_num,n',s',F22,hn',HT2.out,O23.out,by push_cast;omega,by push_cast;omega,fun e=>(by cases e)⟩,by simp[intOf];omega⟩
     ·obtain⟨s',n',p1,hT',hn',g1,g2⟩:=tim_goes HT.out hn (by rw[← HTT.out];exact Bool.and_false _) [late,-5]
      have hfp:=field_P s'.f s'.u
      have AW:Hid _:=hT'.away hn'
      rw[← HTT.out] at g1 g2
      have st:=One.step HK.out O21.out (by decide) (by decide) (by omega) HLT.out
      rw[p1] at st
      have ST:Hid _:=st
      have HT2:Hid _:=hT'
      clear st p1 hT'
      go_wp2_with fail
      refine Calls.mono ST.out ?_
      rintro e w22 ⟨rfl,F22,o22,-,-⟩
      have O22:Hid (One Is w [late,-5] p 40 (2+k+1) w22 F22 s' timW []):=o22
      clear o22 O21 ST
      go_wp2_with fail
      refine Calls.mono (HK.out.regs O22.out.imp) ?_
      rintro e w23 ⟨rfl,b23⟩
      have O23:Hid _:=O22.out.below HK.out b23
      have hne:(s'.f 32==128)=false:=beq_eq_false_iff_ne.2 AW.out
      clear b23 O22
      go_wp2_with fail
      exact⟨⟨k+1,hlt,by go_num,n',s',F22,hn',HT2.out,O23.out,by push_cast;omega,by push_cast;omega,fun e=>(by cases e)⟩,by simp[intOf];omega⟩
    ·have hk5:k=500:=by omega
     subst hk5
     go_wp2_with fail
     refine Calls.mono (kawake6 HK.out _) ?_
     rintro e w27 ⟨rfl,b27⟩
     have O27:Hid _:=O20.out.below HK.out b27
     go_wp2
     go_ret
     exact⟨rfl,O27.out.bel⟩
theorem timersun {Is:z6d} (K:CoreK Is) (after late:Int) (ha:0≤after∧after≤255) (hl:0≤late∧late≤255) (w:World) :
  Calls Tryz.prog 4 #[.int .u8 after,.int .u8 late,.bool true,.bool true] w fun e w'=>e=.returned (.bool true)∧Below w.heap.size w w':=by
 have HK:Hid _:=K
 have CA:Hid (∀ V:World,Calls Tryz.prog 12 #[.agg #[.string ⟨#[97,100,100,105]⟩,.int .i64 1,.int .i64 1,.int .i64 0,.int .i32 1]] V fun e w'=>e=.returned (.int .u32 addW)∧Below V.heap.size V w'):=fun V=>by
  have:=kWord ⟨#[97,100,100,105]⟩ 1 1 0 1 V
  rw[ByteArray.toList_eq] at this
  exact this
 have CJ:Hid (∀ V:World,Calls Tryz.prog 12 #[.agg #[.string ⟨#[106,97,108]⟩,.int .i64 0,.int .i64 0,.int .i64 0,.int .i32 (-32)]] V fun e w'=>e=.returned (.int .u32 jalW)∧Below V.heap.size V w'):=fun V=>by
  have:=kWord ⟨#[106,97,108]⟩ 0 0 0 (-32) V
  rw[ByteArray.toList_eq] at this
  exact this
 have CS:Hid (∀ V:World,Calls Tryz.prog 12 #[.agg #[.string ⟨#[115,119]⟩,.int .i64 0,.int .i64 2,.int .i64 3,.int .i32 0]] V fun e w'=>e=.returned (.int .u32 swW)∧Below V.heap.size V w'):=fun V=>by
  have:=kWord ⟨#[115,119]⟩ 0 2 3 0 V
  rw[ByteArray.toList_eq] at this
  exact this
 have CM:Hid (∀ V:World,Calls Tryz.prog 12 #[.agg #[.string ⟨#[109,114,101,116]⟩,.int .i64 0,.int .i64 0,.int .i64 0,.int .i32 0]] V fun e w'=>e=.returned (.int .u32 mretW)∧Below V.heap.size V w'):=fun V=>by
  have:=kWord ⟨#[109,114,101,116]⟩ 0 0 0 0 V
  rw[ByteArray.toList_eq] at this
  exact this
 have eF:set1 (set1 (set1 (set1 (set1 (set1 (set1 (set1 (fun _=>0) 32 80) 36 128) 35 128) 34 136) 34 0) 2 1073741824) 3 after) 42 161=timF (stOf true) (ieOf true) after:=by
  funext i
  unfold timF stOf ieOf
  simp only[set1]
  by_cases e42:i=42
  ·subst e42;rfl
  by_cases e3:i=3
  ·subst e3;rfl
  by_cases e2:i=2
  ·subst e2;rfl
  by_cases e35:i=35
  ·subst e35;rfl
  by_cases e34:i=34
  ·subst e34;rfl
  by_cases e36:i=36
  ·subst e36;rfl
  by_cases e32:i=32
  ·subst e32;rfl
  simp only[if_neg e42,if_neg e3,if_neg e2,if_neg e35,if_neg e34,if_neg e36,if_neg e32]
 have EF:Hid _:=eF
 have HF:Hid (∀ i,U32 ((set1 (set1 (set1 (set1 (set1 (set1 (set1 (set1 (fun _=>0) 32 80) 36 128) 35 128) 34 136) 34 0) 2 1073741824) 3 after) 42 161) i)):=z4m (z4m (z4m (z4m (z4m (z4m (z4m (z4m (fun _=>(⟨by decide,by decide⟩:U32 0)) 32 ⟨by decide,by decide⟩) 36 ⟨by decide,by decide⟩) 35 ⟨by decide,by decide⟩) 34 ⟨by decide,by decide⟩) 34 ⟨by decide,by decide⟩) 2 ⟨by decide,by decide⟩) 3 ⟨by omega,by omega⟩) 42 ⟨by decide,by decide⟩
 obtain⟨s1,p1,h1⟩:=tim_one true true after [late,-5]
 obtain⟨s2,p2,h2,ht2⟩:=tim_two h1 [late,-5]
 have P1:Hid _:=p1
 have P2:Hid _:=p2
 have H1:Hid _:=h1
 have H2:Hid _:=h2
 have HT2:Hid _:=ht2
 have HLT:Hid (∀ i,([late,-5]:List Int).getD i 0≤2097152):=fun i=>by
  rcases i with _ | _ | i
  ·show late≤2097152;omega
  ·show (-5:Int)≤2097152;decide
  ·show (0:Int)≤2097152;decide
 have HL0:Hid (0≤late):=hl.1
 have hq:=eqPtr2
 have hmk:∀ w,(Instr.makeSlice 22 (.int .i64 40) (.int .i64 40)).run Tryz.prog w=.ok (.slice (some ⟨w.heap.size,0,none⟩) 40 40) (w.alloc (.cells (wordsC (timA 0)) 31)):=fun w=>by kernel_rfl
 obtain⟨fs,hfs⟩:=z3f
 have HS:Hid _:=hfs
 have A0:Hid ((w.alloc (.cells (wordsC (timA 0)) 31)).heap[w.heap.size]?=some (.cells (wordsC (timA 0)) 31)):=z0g w _
 have B0:Hid (Below w.heap.size w (w.alloc (.cells (wordsC (timA 0)) 31))):=(Below.refl _ _).alloc (Nat.le_refl _) _
 clear K eF p1 p2 h1 h2 ht2 hfs
 go_enter Tryz.func4,Tryz.ntmps4
 go_wp2_with fail
 go_loopw [10] (fun i wr=>∃ k:Nat,k≤8∧i=.int .i64 k∧Hid (wr.heap[w.heap.size]?=some (.cells (wordsC (timA k)) 31)∧Below w.heap.size w wr)) (fun i _=>8-(intOf i).toNat)
 case atStart=>exact⟨0,Nat.zero_le _,rfl,A0.out,B0.out⟩
 case round=>
  clear A0 B0
  obtain⟨k,hk,rfl,hr⟩:=hrel
  by_cases hlt:k<8
  ·have i5:(0:Int)≤(k:Int):=by omega
   have i7:(k:Int)<40:=by omega
   go_wp2_with fail
   refine (CA.out _).mono ?_
   rintro e w1 ⟨rfl,b1⟩
   have A1:=z0f hr.out.1 b1
   have B1:Hid _:=z0e hr.out.2 b1
   clear b1 hr
   go_wp2_with (first | (refine wpList_store_word rfl rfl rfl rfl A1 (by rw[timA_len];omega) ?_;intro w2 A2 HO HL HS;have B2:Hid _:=HL w.heap.size w (Nat.le_refl _) B1.out;clear HO HL HS A1 B1))
   exact⟨⟨k+1,hlt,by go_num,A2,B2.out⟩,by simp[intOf];omega⟩
  ·have hk8:k=8:=by omega
   subst hk8
   go_wp2_with fail
   refine (CJ.out _).mono ?_
   rintro e w1 ⟨rfl,b1⟩
   have A1:=z0f hr.out.1 b1
   have B1:Hid _:=z0e hr.out.2 b1
   clear b1 hr CA CJ
   go_wp2_with (first | (refine wpList_store_word rfl rfl rfl rfl A1 (by rw[timA_len];decide) ?_;intro w2 A2 HO HL HS;have B2:Hid _:=HL w.heap.size w (Nat.le_refl _) B1.out;clear HO HL HS A1 B1))
   refine (CS.out _).mono ?_
   rintro e w3 ⟨rfl,b1⟩
   have A3:=z0f A2 b1
   have B3:Hid _:=z0e B2.out b1
   clear b1 CS A2 B2
   go_wp2_with (first | (refine wpList_store_word rfl rfl rfl rfl A3 (by rw[List.length_set,timA_len];decide) ?_;intro w4 A4 HO HL HS;have B4:Hid _:=HL w.heap.size w (Nat.le_refl _) B3.out;clear HO HL HS A3 B3))
   refine (CM.out _).mono ?_
   rintro e w5 ⟨rfl,b1⟩
   have A5:=z0f A4 b1
   have B5:Hid _:=z0e B4.out b1
   clear b1 CM A4 B4
   go_wp2_with (first | (refine wpList_store_word rfl rfl rfl rfl A5 (by rw[List.length_set,List.length_set,timA_len];decide) ?_;intro w6 A6 HO HL HS;have B6:Hid _:=HL w.heap.size w (Nat.le_refl _) B5.out;clear HO HL HS A5 B5))
   have a7:Below w6.heap.size w6 (w6.alloc (.cells #[.int .i64 late,.int .i64 (-5)] 3)):=(Below.refl _ _).alloc (Nat.le_refl _) _
   have L7:=z0g w6 (.cells #[.int .i64 late,.int .i64 (-5)] 3)
   have A7:(w6.alloc (.cells #[.int .i64 late,.int .i64 (-5)] 3)).heap[w.heap.size]?=some (.cells (wordsC timW) 31):=z0f A6 a7
   have B7:Hid _:=z0e B6.out a7
   clear a7 A6 B6
   generalize w6.alloc (.cells #[.int .i64 late,.int .i64 (-5)] 3)=w7 at *
   generalize w6.heap.size=lb at *
   have hc:=words_cells A7
   have hb:=(Array.getElem?_eq_some_iff.1 A7).1
   have hlate:z9l w7 (.slice (some ⟨lb,0,none⟩) 2 2) [late,-5]:=⟨_,2,lb,0,rfl,fun _=>⟨rfl,(Array.getElem?_eq_some_iff.1 L7).1,fun i hi=>by
    have hi:i<2:=hi
    refine (z0a L7).1 _ _ ?_
    rcases (by omega:i=0∨i=1) with rfl | rfl <;> rfl⟩⟩
   refine Calls.mono (One.new HK.out w.heap.size 0 40 timW (.slice (some ⟨lb,0,none⟩) 2 2) [late,-5] B7.out (by rw[timW_len];decide) (by rw[timW_len];decide) timW_u hb hc hlate (show 2≤1000 by decide)) ?_
   rintro e w8 ⟨p,F8,rfl,o8,-,-⟩
   rw[timW_len] at o8
   have O8:Hid _:=o8
   clear hc hb A7 B7 o8 L7 hlate
   go_wp2_with (first | (go_at_call 13;refine (zErr6 _ _).mono ?_;rintro e wq ⟨rfl,hwq⟩;rw[hwq];clear hwq wq) | (refine z4p rfl 37 (.tmp 13) (.tmp 57) rfl rfl (z0c (set1 (set1 (set1 (set1 (fun _=>0) 32 80) 36 128) 35 128) 34 136) false) rfl 37 _ (by rw[z0b];exact z0o) (by rw[z8d,z0b,z0b]) (z0s _ _) ?_))
   intro w9 R9 b9
   go_wp2_with (first | (refine z0h rfl rfl rfl rfl (by assumption) (by decide) (by decide) ?_;intro wn Rn HO HL;have Bn:=HL w8.heap.size w8 (Nat.le_refl _) (by assumption);clear HO HL) | (refine z7d (by rfl) 37 (.tmp 13) rfl w8.heap.size rfl 37 (z0c (set1 (set1 (set1 (set1 (set1 (set1 (set1 (set1 (fun _=>0) 32 80) 36 128) 35 128) 34 136) 34 0) 2 1073741824) 3 after) 42 161) false) _ (by assumption) HS.out rfl (by rw[z0b];exact z0o) ?_))
   have O9:Hid _:=O8.out.below HK.out Bn
   clear Bn Rn b9 R9 O8
   refine Calls.mono (One.put HK.out O9.out (set1 (set1 (set1 (set1 (set1 (set1 (set1 (set1 (fun _=>0) 32 80) 36 128) 35 128) 34 136) 34 0) 2 1073741824) 3 after) 42 161) false HF.out) ?_
   rintro e w10 ⟨rfl,F10,o10,-,-⟩
   have O10:Hid (One Is w [late,-5] p 40 0 w10 F10 (begC (timF (stOf true) (ieOf true) after) false) timW []):=by
    rw[EF.out] at o10
    exact o10
   clear o10 O9 HF EF
   go_wp2_with fail
   have st:=One.step HK.out O10.out (by decide) (by decide) (by decide) HLT.out
   rw[P1.out] at st
   refine Calls.mono st ?_
   rintro e w11 ⟨rfl,F11,o11,-,-⟩
   have O11:Hid (One Is w [late,-5] p 40 1 w11 F11 s1 timW []):=o11
   clear o11 O10 st
   go_wp2_with fail
   have ct:=HK.out.time O11.out.imp
   rw[H1.out.t] at ct
   refine Calls.mono ct ?_
   rintro e w12 ⟨rfl,b12⟩
   have O12:Hid _:=O11.out.below HK.out b12
   clear b12 O11 ct
   go_wp2_with fail
   have st:=One.step HK.out O12.out (by decide) (by decide) (by decide) HLT.out
   rw[P2.out] at st
   refine Calls.mono st ?_
   rintro e w13 ⟨rfl,F13,o13,-,-⟩
   have O13:Hid (One Is w [late,-5] p 40 2 w13 F13 s2 timW []):=o13
   clear o13 O12 st P1 P2 H1
   have hfu:=field_U s2.f s2.u
   have hfp:=field_P s2.f s2.u
   have hu2:s2.u=true:=H2.out.u
   have hp2:s2.f 32=0:=H2.out.pc
   rw[hu2] at hfu hfp
   rw[hp2] at hfp
   go_wp2_with fail
   refine Calls.mono (HK.out.regs O13.out.imp) ?_
   rintro e w14 ⟨rfl,b14⟩
   rw[hu2]
   have O14:Hid _:=O13.out.below HK.out b14
   clear b14 O13
   go_wp2_with fail
   refine Calls.mono (HK.out.regs O14.out.imp) ?_
   rintro e w15 ⟨rfl,b15⟩
   rw[hu2]
   have O15:Hid _:=O14.out.below HK.out b15
   clear b15 O14
   have hu2':Hid _:=hu2
   clear hu2 hp2
   go_wp2_with fail
   clear hfu hfp
   have L0:Hid (TimL Is w true true after late p 0 w15):=⟨0,s2,F13,Nat.zero_le _,H2.out,O15.out,by rw[HT2.out];decide,by rw[HT2.out];decide,fun _=>Nat.zero_le _⟩
   clear H2 O15 HT2
   go_loopw [15] (fun i wr=>∃ k:Nat,k≤500∧i=.int .i64 k∧Hid (TimL Is w true true after late p k wr)) (fun i _=>500-(intOf i).toNat)
   case atStart=>exact⟨0,Nat.zero_le _,rfl,L0.out⟩
   case round=>
    clear L0
    obtain⟨k,hk,rfl,hr⟩:=hrel
    obtain⟨n,s,F,hn,hT,hO,t0,t1,hon⟩:=hr.out
    have O20:Hid _:=hO
    have HT:Hid _:=hT
    clear hr hO hT
    obtain⟨tt,htt⟩:∃ tt,tt=s.t:=⟨_,rfl⟩
    rw[← htt] at t0 t1
    have HTT:Hid _:=htt
    clear htt
    by_cases hlt:k<500
    ·have ct:=HK.out.time O20.out.imp
     rw[← HTT.out] at ct
     have CT:Hid _:=ct
     clear ct
     go_wp2_with fail
     refine Calls.mono CT.out ?_
     rintro e w21 ⟨rfl,b21⟩
     have O21:Hid _:=O20.out.below HK.out b21
     clear b21 O20 CT
     by_cases hd:2+after≤tt
     ·obtain⟨s',p1,k32,k39,k40,ku,kt⟩:=tim_comes HT.out HL0.out (by rw[← HTT.out];exact hd)
      have hfp:=field_P s'.f s'.u
      rw[k32] at hfp
      have K39:Hid _:=k39
      have K40:Hid _:=k40
      have KU:Hid _:=ku
      have K32:Hid _:=k32
      rw[← HTT.out] at kt
      have KT:Hid _:=kt
      have st:=One.step HK.out O21.out (by decide) (by decide) (by omega) HLT.out
      rw[p1] at st
      have ST:Hid _:=st
      clear st p1 k32 k39 k40 ku kt
      go_wp2_with fail
      refine Calls.mono ST.out ?_
      rintro e w22 ⟨rfl,F22,o22,-,-⟩
      have O22:Hid (One Is w [late,-5] p 40 (2+k+1) w22 F22 s' timW []):=o22
      clear o22 O21 ST
      go_wp2_with fail
      refine Calls.mono (HK.out.regs O22.out.imp) ?_
      rintro e w23 ⟨rfl,b23⟩
      have O23:Hid _:=O22.out.below HK.out b23
      clear b23 O22
      go_wp2_with fail
      refine Calls.mono (HK.out.regs O23.out.imp) ?_
      rintro e w24 ⟨rfl,b24⟩
      have O24:Hid _:=O23.out.below HK.out b24
      clear b24 O23 hfp
      go_wp2_with (first | (refine z4p rfl 37 (.tmp 19) (.tmp 118) rfl rfl (z0c _ _) rfl 37 _ (by rw[z0b];exact z0o) (by rw[z8d,z0b,z0b]) (z0s _ _) ?_))
      intro w25 R25 b25
      have O25:Hid _:=O24.out.below HK.out b25
      clear b25 O24
      generalize w24.heap.size=rb at *
      have ct:=HK.out.time O25.out.imp
      rw[KT.out] at ct
      have CT:Hid _:=ct
      clear ct
      go_wp2_with (first | (refine wpList_load_reg_is (i:=39) (by rfl) rfl rfl R25 (by omega) (by omega) K39.out ?_) | (refine wpList_load_reg_is (i:=40) (by rfl) rfl rfl R25 (by omega) (by omega) K40.out ?_) | (refine wpList_user_is (by rfl) rfl rfl R25 KU.out ?_))
      refine Calls.mono CT.out ?_
      rintro e w26 ⟨rfl,b26⟩
      have O26:Hid _:=O25.out.below HK.out b26
      clear b26 O25 CT R25
      go_wp2_with fail
      refine Calls.mono (kawake6 HK.out _) ?_
      rintro e w27 ⟨rfl,b27⟩
      have O27:Hid _:=O26.out.below HK.out b27
      go_wp2
      go_ret
      exact⟨rfl,O27.out.bel⟩
     ·obtain⟨s',n',p1,hT',hn',g1,g2⟩:=tim_goes HT.out hn (by rw[← HTT.out];rw[decide_eq_false hd];rfl) [late,-5]
      have hfp:=field_P s'.f s'.u
      have AW:Hid _:=hT'.away hn'
      rw[← HTT.out] at g1 g2
      have st:=One.step HK.out O21.out (by decide) (by decide) (by omega) HLT.out
      rw[p1] at st
      have ST:Hid _:=st
      have HT2:Hid _:=hT'
      clear st p1 hT'
      go_wp2_with fail
      refine Calls.mono ST.out ?_
      rintro e w22 ⟨rfl,F22,o22,-,-⟩
      have O22:Hid (One Is w [late,-5] p 40 (2+k+1) w22 F22 s' timW []):=o22
      clear o22 O21 ST
      go_wp2_with fail
      refine Calls.mono (HK.out.regs O22.out.imp) ?_
      rintro e w23 ⟨rfl,b23⟩
      have O23:Hid _:=O22.out.below HK.out b23
      have hne:(s'.f 32==128)=false:=beq_eq_false_iff_ne.2 AW.out
      clear b23 O22
      go_wp2_with fail
      exact⟨⟨k+1,hlt,by go_num,n',s',F22,hn',HT2.out,O23.out,by push_cast;omega,by push_cast;omega,fun _=>by omega⟩,by simp[intOf];omega⟩
    ·have hk5:k=500:=by omega
     subst hk5
     have:=hon rfl
     omega
theorem timersuf {Is:z6d} (K:CoreK Is) (after late:Int) (ha:0≤after∧after≤255) (hl:0≤late∧late≤255) (w:World) :
  Calls Tryz.prog 4 #[.int .u8 after,.int .u8 late,.bool true,.bool false] w fun e w'=>e=.returned (.bool true)∧Below w.heap.size w w':=by
 have HK:Hid _:=K
 have CA:Hid (∀ V:World,Calls Tryz.prog 12 #[.agg #[.string ⟨#[97,100,100,105]⟩,.int .i64 1,.int .i64 1,.int .i64 0,.int .i32 1]] V fun e w'=>e=.returned (.int .u32 addW)∧Below V.heap.size V w'):=fun V=>by
  have:=kWord ⟨#[97,100,100,105]⟩ 1 1 0 1 V
  rw[ByteArray.toList_eq] at this
  exact this
 have CJ:Hid (∀ V:World,Calls Tryz.prog 12 #[.agg #[.string ⟨#[106,97,108]⟩,.int .i64 0,.int .i64 0,.int .i64 0,.int .i32 (-32)]] V fun e w'=>e=.returned (.int .u32 jalW)∧Below V.heap.size V w'):=fun V=>by
  have:=kWord ⟨#[106,97,108]⟩ 0 0 0 (-32) V
  rw[ByteArray.toList_eq] at this
  exact this
 have CS:Hid (∀ V:World,Calls Tryz.prog 12 #[.agg #[.string ⟨#[115,119]⟩,.int .i64 0,.int .i64 2,.int .i64 3,.int .i32 0]] V fun e w'=>e=.returned (.int .u32 swW)∧Below V.heap.size V w'):=fun V=>by
  have:=kWord ⟨#[115,119]⟩ 0 2 3 0 V
  rw[ByteArray.toList_eq] at this
  exact this
 have CM:Hid (∀ V:World,Calls Tryz.prog 12 #[.agg #[.string ⟨#[109,114,101,116]⟩,.int .i64 0,.int .i64 0,.int .i64 0,.int .i32 0]] V fun e w'=>e=.returned (.int .u32 mretW)∧Below V.heap.size V w'):=fun V=>by
  have:=kWord ⟨#[109,114,101,116]⟩ 0 0 0 0 V
  rw[ByteArray.toList_eq] at this
  exact this
 have eF:set1 (set1 (set1 (set1 (set1 (set1 (set1 (set1 (set1 (fun _=>0) 32 80) 36 128) 35 128) 34 136) 34 0) 35 0) 2 1073741824) 3 after) 42 161=timF (stOf true) (ieOf false) after:=by
  funext i
  unfold timF stOf ieOf
  simp only[set1]
  by_cases e42:i=42
  ·subst e42;rfl
  by_cases e3:i=3
  ·subst e3;rfl
  by_cases e2:i=2
  ·subst e2;rfl
  by_cases e35:i=35
  ·subst e35;rfl
  by_cases e34:i=34
  ·subst e34;rfl
  by_cases e36:i=36
  ·subst e36;rfl
  by_cases e32:i=32
  ·subst e32;rfl
  simp only[if_neg e42,if_neg e3,if_neg e2,if_neg e35,if_neg e34,if_neg e36,if_neg e32]
 have EF:Hid _:=eF
 have HF:Hid (∀ i,U32 ((set1 (set1 (set1 (set1 (set1 (set1 (set1 (set1 (set1 (fun _=>0) 32 80) 36 128) 35 128) 34 136) 34 0) 35 0) 2 1073741824) 3 after) 42 161) i)):=z4m (z4m (z4m (z4m (z4m (z4m (z4m (z4m (z4m (fun _=>(⟨by decide,by decide⟩:U32 0)) 32 ⟨by decide,by decide⟩) 36 ⟨by decide,by decide⟩) 35 ⟨by decide,by decide⟩) 34 ⟨by decide,by decide⟩) 34 ⟨by decide,by decide⟩) 35 ⟨by decide,by decide⟩) 2 ⟨by decide,by decide⟩) 3 ⟨by omega,by omega⟩) 42 ⟨by decide,by decide⟩
 obtain⟨s1,p1,h1⟩:=tim_one true false after [late,-5]
 obtain⟨s2,p2,h2,ht2⟩:=tim_two h1 [late,-5]
 have P1:Hid _:=p1
 have P2:Hid _:=p2
 have H1:Hid _:=h1
 have H2:Hid _:=h2
 have HT2:Hid _:=ht2
 have HLT:Hid (∀ i,([late,-5]:List Int).getD i 0≤2097152):=fun i=>by
  rcases i with _ | _ | i
  ·show late≤2097152;omega
  ·show (-5:Int)≤2097152;decide
  ·show (0:Int)≤2097152;decide
 have HL0:Hid (0≤late):=hl.1
 have hq:=eqPtr2
 have hmk:∀ w,(Instr.makeSlice 22 (.int .i64 40) (.int .i64 40)).run Tryz.prog w=.ok (.slice (some ⟨w.heap.size,0,none⟩) 40 40) (w.alloc (.cells (wordsC (timA 0)) 31)):=fun w=>by kernel_rfl
 obtain⟨fs,hfs⟩:=z3f
 have HS:Hid _:=hfs
 have A0:Hid ((w.alloc (.cells (wordsC (timA 0)) 31)).heap[w.heap.size]?=some (.cells (wordsC (timA 0)) 31)):=z0g w _
 have B0:Hid (Below w.heap.size w (w.alloc (.cells (wordsC (timA 0)) 31))):=(Below.refl _ _).alloc (Nat.le_refl _) _
 clear K eF p1 p2 h1 h2 ht2 hfs
 go_enter Tryz.func4,Tryz.ntmps4
 go_wp2_with fail
 go_loopw [10] (fun i wr=>∃ k:Nat,k≤8∧i=.int .i64 k∧Hid (wr.heap[w.heap.size]?=some (.cells (wordsC (timA k)) 31)∧Below w.heap.size w wr)) (fun i _=>8-(intOf i).toNat)
 case atStart=>exact⟨0,Nat.zero_le _,rfl,A0.out,B0.out⟩
 case round=>
  clear A0 B0
  obtain⟨k,hk,rfl,hr⟩:=hrel
  by_cases hlt:k<8
  ·have i5:(0:Int)≤(k:Int):=by omega
   have i7:(k:Int)<40:=by omega
   go_wp2_with fail
   refine (CA.out _).mono ?_
   rintro e w1 ⟨rfl,b1⟩
   have A1:=z0f hr.out.1 b1
   have B1:Hid _:=z0e hr.out.2 b1
   clear b1 hr
   go_wp2_with (first | (refine wpList_store_word rfl rfl rfl rfl A1 (by rw[timA_len];omega) ?_;intro w2 A2 HO HL HS;have B2:Hid _:=HL w.heap.size w (Nat.le_refl _) B1.out;clear HO HL HS A1 B1))
   exact⟨⟨k+1,hlt,by go_num,A2,B2.out⟩,by simp[intOf];omega⟩
  ·have hk8:k=8:=by omega
   subst hk8
   go_wp2_with fail
   refine (CJ.out _).mono ?_
   rintro e w1 ⟨rfl,b1⟩
   have A1:=z0f hr.out.1 b1
   have B1:Hid _:=z0e hr.out.2 b1
   clear b1 hr CA CJ
   go_wp2_with (first | (refine wpList_store_word rfl rfl rfl rfl A1 (by rw[timA_len];decide) ?_;intro w2 A2 HO HL HS;have B2:Hid _:=HL w.heap.size w (Nat.le_refl _) B1.out;clear HO HL HS A1 B1))
   refine (CS.out _).mono ?_
   rintro e w3 ⟨rfl,b1⟩
   have A3:=z0f A2 b1
   have B3:Hid _:=z0e B2.out b1
   clear b1 CS A2 B2
   go_wp2_with (first | (refine wpList_store_word rfl rfl rfl rfl A3 (by rw[List.length_set,timA_len];decide) ?_;intro w4 A4 HO HL HS;have B4:Hid _:=HL w.heap.size w (Nat.le_refl _) B3.out;clear HO HL HS A3 B3))
   refine (CM.out _).mono ?_
   rintro e w5 ⟨rfl,b1⟩
   have A5:=z0f A4 b1
   have B5:Hid _:=z0e B4.out b1
   clear b1 CM A4 B4
   go_wp2_with (first | (refine wpList_store_word rfl rfl rfl rfl A5 (by rw[List.length_set,List.length_set,timA_len];decide) ?_;intro w6 A6 HO HL HS;have B6:Hid _:=HL w.heap.size w (Nat.le_refl _) B5.out;clear HO HL HS A5 B5))
   have a7:Below w6.heap.size w6 (w6.alloc (.cells #[.int .i64 late,.int .i64 (-5)] 3)):=(Below.refl _ _).alloc (Nat.le_refl _) _
   have L7:=z0g w6 (.cells #[.int .i64 late,.int .i64 (-5)] 3)
   have A7:(w6.alloc (.cells #[.int .i64 late,.int .i64 (-5)] 3)).heap[w.heap.size]?=some (.cells (wordsC timW) 31):=z0f A6 a7
   have B7:Hid _:=z0e B6.out a7
   clear a7 A6 B6
   generalize w6.alloc (.cells #[.int .i64 late,.int .i64 (-5)] 3)=w7 at *
   generalize w6.heap.size=lb at *
   have hc:=words_cells A7
   have hb:=(Array.getElem?_eq_some_iff.1 A7).1
   have hlate:z9l w7 (.slice (some ⟨lb,0,none⟩) 2 2) [late,-5]:=⟨_,2,lb,0,rfl,fun _=>⟨rfl,(Array.getElem?_eq_some_iff.1 L7).1,fun i hi=>by
    have hi:i<2:=hi
    refine (z0a L7).1 _ _ ?_
    rcases (by omega:i=0∨i=1) with rfl | rfl <;> rfl⟩⟩
   refine Calls.mono (One.new HK.out w.heap.size 0 40 timW (.slice (some ⟨lb,0,none⟩) 2 2) [late,-5] B7.out (by rw[timW_len];decide) (by rw[timW_len];decide) timW_u hb hc hlate (show 2≤1000 by decide)) ?_
   rintro e w8 ⟨p,F8,rfl,o8,-,-⟩
   rw[timW_len] at o8
   have O8:Hid _:=o8
   clear hc hb A7 B7 o8 L7 hlate
   go_wp2_with (first | (go_at_call 13;refine (zErr6 _ _).mono ?_;rintro e wq ⟨rfl,hwq⟩;rw[hwq];clear hwq wq) | (refine z4p rfl 37 (.tmp 13) (.tmp 57) rfl rfl (z0c (set1 (set1 (set1 (set1 (fun _=>0) 32 80) 36 128) 35 128) 34 136) false) rfl 37 _ (by rw[z0b];exact z0o) (by rw[z8d,z0b,z0b]) (z0s _ _) ?_))
   intro w9 R9 b9
   go_wp2_with (first | (refine z0h rfl rfl rfl rfl (by assumption) (by decide) (by decide) ?_;intro wn Rn HO HL;have Bn:=HL w8.heap.size w8 (Nat.le_refl _) (by assumption);clear HO HL) | (refine z7d (by rfl) 37 (.tmp 13) rfl w8.heap.size rfl 37 (z0c (set1 (set1 (set1 (set1 (set1 (set1 (set1 (set1 (set1 (fun _=>0) 32 80) 36 128) 35 128) 34 136) 34 0) 35 0) 2 1073741824) 3 after) 42 161) false) _ (by assumption) HS.out rfl (by rw[z0b];exact z0o) ?_))
   have O9:Hid _:=O8.out.below HK.out Bn
   clear Bn Rn b9 R9 O8
   refine Calls.mono (One.put HK.out O9.out (set1 (set1 (set1 (set1 (set1 (set1 (set1 (set1 (set1 (fun _=>0) 32 80) 36 128) 35 128) 34 136) 34 0) 35 0) 2 1073741824) 3 after) 42 161) false HF.out) ?_
   rintro e w10 ⟨rfl,F10,o10,-,-⟩
   have O10:Hid (One Is w [late,-5] p 40 0 w10 F10 (begC (timF (stOf true) (ieOf false) after) false) timW []):=by
    rw[EF.out] at o10
    exact o10
   clear o10 O9 HF EF
   go_wp2_with fail
   have st:=One.step HK.out O10.out (by decide) (by decide) (by decide) HLT.out
   rw[P1.out] at st
   refine Calls.mono st ?_
   rintro e w11 ⟨rfl,F11,o11,-,-⟩
   have O11:Hid (One Is w [late,-5] p 40 1 w11 F11 s1 timW []):=o11
   clear o11 O10 st
   go_wp2_with fail
   have ct:=HK.out.time O11.out.imp
   rw[H1.out.t] at ct
   refine Calls.mono ct ?_
   rintro e w12 ⟨rfl,b12⟩
   have O12:Hid _:=O11.out.below HK.out b12
   clear b12 O11 ct
   go_wp2_with fail
   have st:=One.step HK.out O12.out (by decide) (by decide) (by decide) HLT.out
   rw[P2.out] at st
   refine Calls.mono st ?_
   rintro e w13 ⟨rfl,F13,o13,-,-⟩
   have O13:Hid (One Is w [late,-5] p 40 2 w13 F13 s2 timW []):=o13
   clear o13 O12 st P1 P2 H1
   have hfu:=field_U s2.f s2.u
   have hfp:=field_P s2.f s2.u
   have hu2:s2.u=true:=H2.out.u
   have hp2:s2.f 32=0:=H2.out.pc
   rw[hu2] at hfu hfp
   rw[hp2] at hfp
   go_wp2_with fail
   refine Calls.mono (HK.out.regs O13.out.imp) ?_
   rintro e w14 ⟨rfl,b14⟩
   rw[hu2]
   have O14:Hid _:=O13.out.below HK.out b14
   clear b14 O13
   go_wp2_with fail
   refine Calls.mono (HK.out.regs O14.out.imp) ?_
   rintro e w15 ⟨rfl,b15⟩
   rw[hu2]
   have O15:Hid _:=O14.out.below HK.out b15
   clear b15 O14
   have hu2':Hid _:=hu2
   clear hu2 hp2
   go_wp2_with fail
   clear hfu hfp
   have L0:Hid (TimL Is w false true after late p 0 w15):=⟨0,s2,F13,Nat.zero_le _,H2.out,O15.out,by rw[HT2.out];decide,by rw[HT2.out];decide,fun _=>Nat.zero_le _⟩
   clear H2 O15 HT2
   go_loopw [15] (fun i wr=>∃ k:Nat,k≤500∧i=.int .i64 k∧Hid (TimL Is w false true after late p k wr)) (fun i _=>500-(intOf i).toNat)
   case atStart=>exact⟨0,Nat.zero_le _,rfl,L0.out⟩
   case round=>
    clear L0
    obtain⟨k,hk,rfl,hr⟩:=hrel
    obtain⟨n,s,F,hn,hT,hO,t0,t1,hon⟩:=hr.out
    have O20:Hid _:=hO
    have HT:Hid _:=hT
    clear hr hO hT
    obtain⟨tt,htt⟩:∃ tt,tt=s.t:=⟨_,rfl⟩
    rw[← htt] at t0 t1
    have HTT:Hid _:=htt
    clear htt
    by_cases hlt:k<500
    ·have ct:=HK.out.time O20.out.imp
     rw[← HTT.out] at ct
     have CT:Hid _:=ct
     clear ct
     go_wp2_with fail
     refine Calls.mono CT.out ?_
     rintro e w21 ⟨rfl,b21⟩
     have O21:Hid _:=O20.out.below HK.out b21
     clear b21 O20 CT
     by_cases hd:2+after≤tt
     ·obtain⟨s',n',p1,hT',hn',g1,g2⟩:=tim_goes HT.out hn (by rw[← HTT.out];exact Bool.and_false _) [late,-5]
      have hfp:=field_P s'.f s'.u
      have AW:Hid _:=hT'.away hn'
      rw[← HTT.out] at g1 g2
      have st:=One.step HK.out O21.out (by decide) (by decide) (by omega) HLT.out
      rw[p1] at st
      have ST:Hid _:=st
      have HT2:Hid _:=hT'
      clear st p1 hT'
      go_wp2_with fail
      refine Calls.mono ST.out ?_
      rintro e w22 ⟨rfl,F22,o22,-,-⟩
      have O22:Hid (One Is w [late,-5] p 40 (2+k+1) w22 F22 s' timW []):=o22
      clear o22 O21 ST
      go_wp2_with fail
      refine Calls.mono (HK.out.regs O22.out.imp) ?_
      rintro e w23 ⟨rfl,b23⟩
      have O23:Hid _:=O22.out.below HK.out b23
      have hne:(s'.f 32==128)=false:=beq_eq_false_iff_ne.2 AW.out
      clear b23 O22
      go_wp2_with fail
      exact⟨⟨k+1,hlt,by go_num,n',s',F22,hn',HT2.out,O23.out,by push_cast;omega,by push_cast;omega,fun e=>(by cases e)⟩,by simp[intOf];omega⟩
     ·obtain⟨s',n',p1,hT',hn',g1,g2⟩:=tim_goes HT.out hn (by rw[← HTT.out];exact Bool.and_false _) [late,-5]
      have hfp:=field_P s'.f s'.u
      have AW:Hid _:=hT'.away hn'
      rw[← HTT.out] at g1 g2
      have st:=One.step HK.out O21.out (by decide) (by decide) (by omega) HLT.out
      rw[p1] at st
      have ST:Hid _:=st
      have HT2:Hid _:=hT'
      clear st p1 hT'
      go_wp2_with fail
      refine Calls.mono ST.out ?_
      rintro e w22 ⟨rfl,F22,o22,-,-⟩
      have O22:Hid (One Is w [late,-5] p 40 (2+k+1) w22 F22 s' timW []):=o22
      clear o22 O21 ST
      go_wp2_with fail
      refine Calls.mono (HK.out.regs O22.out.imp) ?_
      rintro e w23 ⟨rfl,b23⟩
      have O23:Hid _:=O22.out.below HK.out b23
      have hne:(s'.f 32==128)=false:=beq_eq_false_iff_ne.2 AW.out
      clear b23 O22
      go_wp2_with fail
      exact⟨⟨k+1,hlt,by go_num,n',s',F22,hn',HT2.out,O23.out,by push_cast;omega,by push_cast;omega,fun e=>(by cases e)⟩,by simp[intOf];omega⟩
    ·have hk5:k=500:=by omega
     subst hk5
     go_wp2_with fail
     refine Calls.mono (kawake6 HK.out _) ?_
     rintro e w27 ⟨rfl,b27⟩
     have O27:Hid _:=O20.out.below HK.out b27
     go_wp2
     go_ret
     exact⟨rfl,O27.out.bel⟩
theorem coreTimers {Is:z6d} (K:CoreK Is) (after late:Int) (user on:Bool) (ha:0≤after∧after≤255) (hl:0≤late∧late≤255) (w:World) :
  Calls Tryz.prog 4 #[.int .u8 after,.int .u8 late,.bool user,.bool on] w fun e w'=>e=.returned (.bool true)∧Below w.heap.size w w':=by
 cases user <;> cases on
 ·exact timersmf K after late ha hl w
 ·exact timersmn K after late ha hl w
 ·exact timersuf K after late ha hl w
 ·exact timersun K after late ha hl w
end Go.Proofs.YtilcoimelnpkeaaGreatDoor
