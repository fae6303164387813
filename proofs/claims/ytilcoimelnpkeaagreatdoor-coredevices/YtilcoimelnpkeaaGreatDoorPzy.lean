/-
  Contracts of functions that the statement reaches, and what they are made of, callees first.
-/
import Derived.Test.YtilcoimelnpkeaaGreatDoorPza
import Derived.Test.YtilcoimelnpkeaaGreatDoorPzs
import Derived.Test.YtilcoimelnpkeaaGreatDoorPzt
set_option maxRecDepth 100000
set_option maxHeartbeats 8000000
namespace Go.Proofs.YtilcoimelnpkeaaGreatDoor
open Go.RowKit
section
theorem One.mono {Is:z6d} {w0 w:World} {late:List Int} {p N i j:Nat} {F:Nat→Prop} {s:CS} {l:List Int} {es:List Ev} (h:One Is w0 late p N i w F s l es) (hij:i≤j):One Is w0 late p N j w F s l es:=
 ⟨h.imp,h.lo,h.ok.mono (by omega) (by omega),h.mem,h.len,Nat.le_trans h.evn hij,h.c0,by have:=h.c1;omega,h.bel⟩
def devEv (zs:List Int) (i:Nat):Ev:=⟨i,zs.getD i 0%6,zs.getD i 0⟩
def devEs (zs:List Int):Nat→List Ev
 | 0=>[]
 | k+1=>devEs zs k++[devEv zs k]
theorem devEs_len (zs:List Int):∀ k,(devEs zs k).length=k
 | 0=>rfl
 | k+1=>by
  show (devEs zs k++[devEv zs k]).length=k+1
  rw[List.length_append,devEs_len zs k]
  rfl
theorem devEs_at (zs:List Int):∀ (k i:Nat),i<k→evAt (devEs zs k) i=devEv zs i
 | 0,i,h=>by omega
 | k+1,i,h=>by
  show (devEs zs k++[devEv zs k]).getD i noEv=_
  rw[List.getD_eq_getElem?_getD]
  by_cases hi:i<k
  ·rw[List.getElem?_append_left (by rw[devEs_len];exact hi),← List.getD_eq_getElem?_getD]
   exact devEs_at zs k i hi
  ·rw[List.getElem?_append_right (by rw[devEs_len];omega),devEs_len,show i-k=0 by omega,show i=k by omega]
   rfl
def DevL (Is:z6d) (w:World) (zs:List Int) (m p k:Nat) (wr:World):Prop:=
 ∃ s F,One Is w [] p 4 (6*k) wr F s devW (devEs zs k)∧(k<m→s.set=false∧s.stop=false)
def DevK (Is:z6d) (w:World) (zs:List Int) (p i k:Nat) (wr:World):Prop:=
 ∃ s F es,One Is w [] p 4 (6*i+k) wr F s devW es∧DevIn i (zs.getD i 0%6) (zs.getD i 0) k s∧(k=1→s.task=i)∧(k=2→s.task=i∧s.kind=zs.getD i 0%6)∧(k<3→es=devEs zs i)∧(k=3→es=devEs zs (i+1))
theorem DevK.step {Is:z6d} (K:CoreK Is) {w:World} {zs:List Int} {p i k:Nat} {wr:World} (h:DevK Is w zs p i k wr) (hk:k<3) (hi:i<12) :
  Calls Tryz.prog 16 #[.pointer (some ⟨p,0,none⟩)] wr fun e w'=>e=.returned (.bool true)∧DevK Is w zs p i (k+1) w':=by
 obtain⟨s,F,es,hO,hD,h1,h2,h3,-⟩:=h
 have he:=h3 hk
 subst he
 have st:=One.step K hO (by decide) (by decide) (by omega) no_lates
 have hs:=hD.stop
 rcases (by omega:k=0∨k=1∨k=2) with rfl | rfl | rfl
 ·obtain⟨s',p1,hD',ht⟩:=dev_task hD (devEs zs i)
  rw[p1,hs] at st
  refine st.mono ?_
  rintro e w1 ⟨rfl,F',h',-,-⟩
  exact⟨rfl,s',F',_,h',hD',fun _=>ht,fun q=>(by omega),fun _=>rfl,fun q=>(by omega)⟩
 ·obtain⟨s',p1,hD',ht,hy⟩:=dev_kind hD (devEs zs i)
  rw[p1,hs] at st
  refine st.mono ?_
  rintro e w1 ⟨rfl,F',h',-,-⟩
  exact⟨rfl,s',F',_,h',hD',fun q=>(by omega),fun _=>⟨ht.trans (h1 rfl),hy⟩,fun _=>rfl,fun q=>(by omega)⟩
 ·obtain⟨s',p1,hD'⟩:=dev_say hD (devEs zs i)
  rw[p1,hs] at st
  refine st.mono ?_
  rintro e w1 ⟨rfl,F',h',-,-⟩
  exact⟨rfl,s',F',_,h',hD',fun q=>(by omega),fun q=>(by omega),fun q=>(by omega),fun _=>by rw[(h2 rfl).1,(h2 rfl).2];rfl⟩
theorem eqZ57 (w:World):(binOp .eql 37 (.agg (z0c (fun _=>0) false)) (.agg #[.int .u32 0,.int .u32 0,.int .u32 0,.int .u32 0,.int .u32 0,.int .u32 0,.int .u32 0,.int .u32 0,.int .u32 0,.int .u32 0,.int .u32 0,.int .u32 0,.int .u32 0,.int .u32 0,.int .u32 0,.int .u32 0,.int .u32 0,.int .u32 0,.int .u32 0,.int .u32 0,.int .u32 0,.int .u32 0,.int .u32 0,.int .u32 0,.int .u32 0,.int .u32 0,.int .u32 0,.int .u32 0,.int .u32 0,.int .u32 0,.int .u32 0,.int .u32 0,.int .u32 0,.bool false,.int .u32 0,.int .u32 0,.int .u32 0,.int .u32 0,.int .u32 0,.int .u32 0,.int .u32 0,.int .u32 0,.int .u32 0,.int .u32 0,.int .u32 0,.int .u32 0,.int .u32 0,.int .u32 0,.int .u32 0,.int .u32 0,.int .u32 0,.int .u32 0,.int .u32 0,.int .u32 0,.int .u32 0,.int .u32 0,.int .u32 0])).run Tryz.prog w=.ok (.bool true) w:=by kernel_rfl
section
variable {ops:Array Oper} {rest:List Oper} {o:Oper} {a:Act} {w:World} {Q:Exit→Act→World→Prop}
theorem wpList_cell_u32 (hgd:o.guard=none) {x:Operand} (ho:o.op=.load 31 x) {b i:Nat} (hx:a.eval x=.pointer (some ⟨b,i,none⟩)) {v:Value} (hv:w.cell? ⟨b,i,none⟩=some v)
  (h:wpList Tryz.prog ops Q rest (a.put o.dst v) w):wpList Tryz.prog ops Q (o::rest) a w:=by
 refine wpList_plain hgd fun K hK=>?_
 unfold Oper.wp execOp
 simp only[ho,hx,Sem.run_bind,Sem.run_pure,Result.andThen_ok,load_u32 hv]
 exact hK _ _ h
end
end
theorem devicess {Is:z6d} (K:CoreK Is) (NK:NilK) (a:Option Addr) (n cap:Nat) (zs:List Int) (w:World) (b off:Nat) (hm:n≤maxLen) (hz:0<n→a=some ⟨b,off,none⟩∧b<w.heap.size) (hc:∀ i,i<n→w.cell? ⟨b,off+i,none⟩=some (.int .u32 (zs.getD i 0))) (hu:∀ z∈zs,U32 z) :
  Calls Tryz.prog 5 #[.slice a n cap,.bool true] w fun e w'=>e=.returned (.bool true)∧Below w.heap.size w w':=by
 have HK:Hid _:=K
 have HN:Hid _:=NK
 have HZ:Hid _:=hz
 have HC:Hid _:=hc
 have HU:Hid (∀ i,U32 (zs.getD i 0)):=word_u hu
 have C0:Hid (∀ V:World,Calls Tryz.prog 12 #[.agg #[.string ⟨#[115,119]⟩,.int .i64 0,.int .i64 1,.int .i64 2,.int .i32 0]] V fun e w'=>e=.returned (.int .u32 (putN (devI 0)))∧Below V.heap.size V w'):=fun V=>by
  have:=kWord ⟨#[115,119]⟩ 0 1 2 0 V
  rw[ByteArray.toList_eq] at this
  exact this
 have C1:Hid (∀ V:World,Calls Tryz.prog 12 #[.agg #[.string ⟨#[115,119]⟩,.int .i64 0,.int .i64 3,.int .i64 4,.int .i32 0]] V fun e w'=>e=.returned (.int .u32 (putN (devI 1)))∧Below V.heap.size V w'):=fun V=>by
  have:=kWord ⟨#[115,119]⟩ 0 3 4 0 V
  rw[ByteArray.toList_eq] at this
  exact this
 have C2:Hid (∀ V:World,Calls Tryz.prog 12 #[.agg #[.string ⟨#[115,119]⟩,.int .i64 0,.int .i64 5,.int .i64 6,.int .i32 0]] V fun e w'=>e=.returned (.int .u32 (putN (devI 2)))∧Below V.heap.size V w'):=fun V=>by
  have:=kWord ⟨#[115,119]⟩ 0 5 6 0 V
  rw[ByteArray.toList_eq] at this
  exact this
 have C3:Hid (∀ V:World,Calls Tryz.prog 12 #[.agg #[.string ⟨#[115,119]⟩,.int .i64 0,.int .i64 7,.int .i64 6,.int .i32 0]] V fun e w'=>e=.returned (.int .u32 (putN (devI 3)))∧Below V.heap.size V w'):=fun V=>by
  have:=kWord ⟨#[115,119]⟩ 0 7 6 0 V
  rw[ByteArray.toList_eq] at this
  exact this
 have hq:=eqPtr2
 obtain⟨m,hmm,hm12,hmn⟩:∃ m:Nat,(if (12:Int)<(n:Int) then (12:Int) else (n:Int))=(m:Int)∧m≤12∧m≤n:=⟨min n 12,by split <;> omega,by omega,by omega⟩
 unfold maxLen at hm
 obtain⟨fs,hfs⟩:=z3f
 have HS:Hid _:=hfs
 clear K NK hz hc hu hfs
 go_enter Tryz.func5,Tryz.ntmps5
 go_wp2_with fail
 refine (C0.out _).mono ?_
 rintro e w1 ⟨rfl,b1⟩
 have B1:Hid _:=b1
 clear b1
 go_wp2_with fail
 refine (C1.out _).mono ?_
 rintro e w2 ⟨rfl,b2⟩
 have B2:Hid _:=z0e B1.out b2
 clear b2 B1
 go_wp2_with fail
 refine (C2.out _).mono ?_
 rintro e w3 ⟨rfl,b3⟩
 have B3:Hid _:=z0e B2.out b3
 clear b3 B2
 go_wp2_with fail
 refine (C3.out _).mono ?_
 rintro e w4 ⟨rfl,b4⟩
 have B4:Hid _:=z0e B3.out b4
 clear b4 B3 C0 C1 C2 C3
 go_wp2_with fail
 have A5:(w4.alloc (.cells #[.int .u32 (putN (devI 0)),.int .u32 (putN (devI 1)),.int .u32 (putN (devI 2)),.int .u32 (putN (devI 3))] 31)).heap[w4.heap.size]?=some (.cells (wordsC devW) 31):=z0g w4 _
 have B5:Hid (Below w.heap.size w (w4.alloc (.cells #[.int .u32 (putN (devI 0)),.int .u32 (putN (devI 1)),.int .u32 (putN (devI 2)),.int .u32 (putN (devI 3))] 31))):=B4.out.alloc B4.out.size _
 generalize w4.alloc (.cells #[.int .u32 (putN (devI 0)),.int .u32 (putN (devI 1)),.int .u32 (putN (devI 2)),.int .u32 (putN (devI 3))] 31)=w5 at *
 have hcc:=words_cells A5
 have hb:=(Array.getElem?_eq_some_iff.1 A5).1
 refine Calls.mono (One.new HK.out w4.heap.size 0 4 devW (.slice none 0 0) [] B5.out (show 0<4 by decide) (show 4≤1000 by decide) devW_u hb hcc (no_late _) (by decide)) ?_
 rintro e w6 ⟨p,F6,rfl,o6,-,-⟩
 have D0:Hid (DevL Is w zs m p 0 w6):=⟨_,F6,o6,fun _=>⟨rfl,rfl⟩⟩
 clear hcc hb A5 B4 B5 o6
 go_wp2_with (first | (go_at_call 13;refine (zErr6 _ _).mono ?_;rintro e wq ⟨rfl,hwq⟩;rw[hwq];clear hwq wq))
 go_loopw [9] (fun i wr=>∃ (k:Nat) (V:World),V=wr∧k≤m∧i=.int .i64 k∧Hid (DevL Is w zs m p k V)) (fun i _=>m-(intOf i).toNat)
 case atStart=>exact⟨0,_,rfl,Nat.zero_le _,rfl,D0.out⟩
 case round=>
  clear D0
  obtain⟨k,V,rfl,hk,rfl,hr⟩:=hrel
  by_cases hlt:k<m
  ·obtain⟨s,F,hO,hss⟩:=hr.out
   have O1:Hid _:=hO
   have HST:Hid _:=(hss hlt).2
   have HSE:Hid _:=(hss hlt).1
   clear hr hO hss
   obtain⟨ea,hbw⟩:=HZ.out (by omega)
   subst ea
   have HB:Hid _:=hbw
   have k0:(0:Int)≤(k:Int):=by omega
   have k1:(k:Int)<(n:Int):=by omega
   have v1:(k:Int)%4294967296=(k:Int):=by omega
   have hcell:=HC.out k (by omega)
   have hzu:=HU.out k
   obtain⟨z,hz⟩:∃ z,z=zs.getD k 0:=⟨_,rfl⟩
   rw[← hz] at hcell hzu
   have HCL:Hid _:=hcell
   have HZU:Hid _:=hzu
   have HZZ:Hid _:=hz
   have m1:z.tmod 6=z%6:=Int.tmod_eq_emod_of_nonneg hzu.1
   have BW:Hid _:=O1.out.bel
   clear hbw hcell hzu hz
   have HFD:Hid (∀ i,U32 (devF k (z%6) z i)):=z4m (z4m (z4m (z4m (z4m (z4m (z4m (fun _=>(⟨by decide,by decide⟩:U32 0)) 1 ⟨by decide,by decide⟩) 2 ⟨by omega,by omega⟩) 3 ⟨by decide,by decide⟩) 4 ⟨by have:=HZU.out.1;omega,by omega⟩) 5 ⟨by decide,by decide⟩) 6 HZU.out) 7 ⟨by decide,by decide⟩
   have Z0:Hid ((V.alloc (.cells (z0c (fun _=>0) false) 37)).heap[V.heap.size]?=some (.cells (z0c (fun _=>0) false) 37)):=z0g V _
   have ZB:Hid (Below V.heap.size V (V.alloc (.cells (z0c (fun _=>0) false) 37))):=(Below.refl _ _).alloc (Nat.le_refl _) _
   have ZW:Hid (Below w.heap.size w (V.alloc (.cells (z0c (fun _=>0) false) 37))):=BW.out.alloc BW.out.size _
   go_wp2_with (first | (have Zx:=Z0;refine z0h rfl rfl rfl rfl Zx.out (by decide) (by decide) ?_;intro wn Rn HO HL;have Bn:=HL V.heap.size V (Nat.le_refl _) ZB.out;have Wn:=HL w.heap.size w BW.out.size ZW.out;clear HO HL Z0 Zx ZB ZW) | (refine z0h rfl rfl rfl rfl (by assumption) (by decide) (by decide) ?_;intro wn Rn HO HL;have Bn:=HL V.heap.size V (Nat.le_refl _) (by assumption);have Wn:=HL w.heap.size w BW.out.size (by assumption);clear HO HL) | (refine wpList_cell_u32 rfl rfl rfl (((by assumption:Below w.heap.size w _).cell (p:=⟨b,off+k,none⟩) HB.out).trans HCL.out) ?_) | (refine z7d (by rfl) 37 (.tmp 10) rfl V.heap.size rfl 37 (z0c (devF k (z%6) z) false) _ (by assumption) HS.out rfl (by rw[z0b];exact z0o) ?_))
   have O2:Hid _:=O1.out.below HK.out Bn
   clear Bn Wn Rn O1 BW
   refine Calls.mono (One.put HK.out O2.out (devF k (z%6) z) false HFD.out) ?_
   rintro e w11 ⟨rfl,F11,o11,-,-⟩
   have DK:Hid (DevK Is w zs p k 0 w11):=⟨_,F11,_,o11,by rw[← HZZ.out];exact dev_put HST.out HSE.out,fun q=>(by omega),fun q=>(by omega),fun _=>rfl,fun q=>(by omega)⟩
   clear o11 O2 HFD HCL HZU HZZ HST HSE HB m1 v1 k1
   go_wp2_with fail
   go_loopw [11] (fun j wr=>∃ q:Nat,q≤3∧j=.int .i64 q∧Hid (DevK Is w zs p k q wr)) (fun j _=>3-(intOf j).toNat)
   case atStart=>exact⟨0,Nat.zero_le _,rfl,DK.out⟩
   case round=>
    clear DK
    obtain⟨q,hq3,rfl,hr⟩:=hrel
    by_cases hlt3:q<3
    ·go_wp2_with fail
     refine Calls.mono (hr.out.step HK.out hlt3 (by omega)) ?_
     rintro e w12 ⟨rfl,h12⟩
     have H12:Hid _:=h12
     clear h12 hr
     go_wp2_with fail
     exact⟨⟨q+1,hlt3,by go_num,H12.out⟩,by simp[intOf];omega⟩
    ·have hq33:q=3:=by omega
     subst hq33
     obtain⟨s',F',es',hO',hD',-,-,-,he⟩:=hr.out
     have he':=he rfl
     subst he'
     have O3:Hid _:=hO'
     have D3:Hid _:=hD'
     clear hr hO' hD' he
     by_cases hl:k+1=m
     ·have h85:((k:Int)==(m:Int)-1)=true:=by simp;omega
      obtain⟨s4,p1,hs4⟩:=dev_stop D3.out (devEs zs (k+1))
      have st:=One.step HK.out O3.out (by decide) (by decide) (by omega) no_lates
      rw[p1,D3.out.stop] at st
      have ST:Hid _:=st
      have HS4:Hid _:=hs4
      clear st p1 hs4
      go_wp2_with fail
      refine Calls.mono ST.out ?_
      rintro e w21 ⟨rfl,F21,o21,-,-⟩
      have O21:Hid (One Is w [] p 4 (6*k+4) w21 F21 s4 devW (devEs zs (k+1))):=o21
      clear o21 O3 ST
      have st:=One.step HK.out O21.out (by decide) (by decide) (by omega) no_lates
      rw[step_stopped HS4.out,HS4.out] at st
      have ST:Hid _:=st
      clear st
      go_wp2_with fail
      refine Calls.mono ST.out ?_
      rintro e w22 ⟨rfl,F22,o22,-,-⟩
      have O22:Hid (One Is w [] p 4 (6*k+5) w22 F22 s4 devW (devEs zs (k+1))):=o22
      clear o22 O21 ST
      have st:=One.step HK.out O22.out (by decide) (by decide) (by omega) no_lates
      rw[step_stopped HS4.out,HS4.out] at st
      have ST:Hid _:=st
      clear st
      go_wp2_with fail
      refine Calls.mono ST.out ?_
      rintro e w23 ⟨rfl,F23,o23,-,-⟩
      have O23:Hid (One Is w [] p 4 (6*k+6) w23 F23 s4 devW (devEs zs (k+1))):=o23
      clear o23 O22 ST
      go_wp2_with fail
      exact⟨⟨k+1,_,rfl,hlt,by go_num,⟨s4,F23,O23.out.mono (by omega),fun e=>(by omega)⟩⟩,by simp[intOf];omega⟩
     ·have h85:((k:Int)==(m:Int)-1)=false:=by simp;omega
      go_wp2_with fail
      exact⟨⟨k+1,_,rfl,hlt,by go_num,⟨s',F',O3.out.mono (by omega),fun _=>⟨D3.out.set,D3.out.stop⟩⟩⟩,by simp[intOf];omega⟩
  ·have hkm:k=m:=by omega
   subst hkm
   obtain⟨s,F,hO,-⟩:=hr.out
   have O1:Hid _:=hO
   clear hr hO
   have ce:=HK.out.events O1.out.imp (by rw[devEs_len];omega)
   go_wp2_with fail
   refine Calls.mono ce ?_
   rintro e w20 ⟨v,rfl,hev,b20⟩
   obtain⟨sa,cp,bv,ov,rfl,he⟩:=hev.is
   have O2:Hid _:=O1.out.below HK.out b20
   have HE:Hid _:=he
   have el:=devEs_len zs k
   rw[el]
   clear ce hev he b20 O1
   go_wp2_with fail
   go_loopw [13] (fun j wr=>∃ (q:Nat) (V:World),V=wr∧q≤k∧j=.int .i64 q∧Hid (Below w20.heap.size w20 V)) (fun j _=>k-(intOf j).toNat)
   case atStart=>exact⟨0,_,rfl,Nat.zero_le _,rfl,Below.refl _ _⟩
   case round=>
    obtain⟨q,V2,rfl,hqk,rfl,hbr⟩:=hrel
    by_cases hlt3:q<k
    ·obtain⟨ea,hbw⟩:=HZ.out (by omega)
     subst ea
     obtain⟨esa,lbv,kc⟩:=HE.out (by rw[el];omega)
     subst esa
     obtain⟨q0,q1,q2⟩:=kc q (by rw[el];exact hlt3)
     rw[devEs_at zs k q hlt3] at q0 q1 q2
     have hcell:=HC.out q (by omega)
     have hzu:=HU.out q
     have dv:devEv zs q=⟨q,zs.getD q 0%6,zs.getD q 0⟩:=rfl
     rw[dv] at q0 q1 q2
     simp only at q0 q1 q2
     rw[← hbr.out.cell (p:=⟨bv,ov+q*3,none⟩) lbv] at q0
     rw[← hbr.out.cell (p:=⟨bv,ov+q*3+1,none⟩) lbv] at q1
     rw[← hbr.out.cell (p:=⟨bv,ov+q*3+2,none⟩) lbv] at q2
     rw[← (z0e O2.out.bel hbr.out).cell (p:=⟨b,off+q,none⟩) hbw] at hcell
     generalize zs.getD q 0=z at *
     have m1:z.tmod 6=z%6:=Int.tmod_eq_emod_of_nonneg hzu.1
     have q5:(0:Int)≤(q:Int):=by omega
     have q6:(q:Int)<(k:Int):=by omega
     have q7:(q:Int)<(n:Int):=by omega
     have hz0:=hzu.1
     have hz6:0≤z%6∧z%6<6:=⟨by omega,by omega⟩
     have w6:wrap64 (z%6)=z%6:=z0y (by omega) (by omega)
     have O3:Hid _:=O2.out.below HK.out hbr.out
     clear kc dv lbv hbw O2
     go_wp2_with fail
     go_region
     go_wp2_with fail
     exact⟨⟨q+1,_,rfl,hlt3,by go_num,hbr.out.drew⟩,by simp[intOf];omega⟩
    ·have hqk2:q=k:=by omega
     subst hqk2
     have O3:Hid _:=O2.out.below HK.out hbr.out
     clear O2 hbr
     have hz57:=eqZ57
     go_wp2_with fail
     refine Calls.mono (HN.out.word 0 _) ?_
     rintro e w31 ⟨rfl,b31⟩
     have O4:Hid _:=O3.out.below HK.out b31
     clear b31 O3
     go_wp2_with fail
     refine Calls.mono (HN.out.put (fun _=>0) false _) ?_
     rintro e w32 ⟨rfl,b32⟩
     have O5:Hid _:=O4.out.below HK.out b32
     clear b32 O4
     go_wp2_with fail
     refine Calls.mono (HN.out.step _) ?_
     rintro e w33 ⟨rfl,b33⟩
     have O6:Hid _:=O5.out.below HK.out b33
     clear b33 O5
     go_wp2_with fail
     refine Calls.mono (HN.out.time _) ?_
     rintro e w34 ⟨rfl,b34⟩
     have O7:Hid _:=O6.out.below HK.out b34
     clear b34 O6
     go_wp2_with fail
     refine Calls.mono (HN.out.events _) ?_
     rintro e w35 ⟨v,rfl,hev,b35⟩
     obtain⟨sa2,cp2,bv2,ov2,rfl,-⟩:=hev.is
     have O8:Hid _:=O7.out.below HK.out b35
     clear b35 O7 hev
     go_wp2_with fail
     refine Calls.mono (HN.out.regs _) ?_
     rintro e w36 ⟨rfl,b36⟩
     have O9:Hid _:=O8.out.below HK.out b36
     clear b36 O8
     go_wp2_with (first | (go_at_call 13;refine (zErr6 _ _).mono ?_;rintro e wq ⟨rfl,hwq⟩;rw[hwq];clear hwq wq))
     refine Calls.mono (HN.out.leak _) ?_
     rintro e w37 ⟨rfl,b37⟩
     have O10:Hid _:=O9.out.below HK.out b37
     clear b37 O9
     go_wp2_with fail
     refine Calls.mono (kawake6 HK.out _) ?_
     rintro e w38 ⟨rfl,b38⟩
     have O11:Hid _:=O10.out.below HK.out b38
     go_wp2
     go_ret
     exact⟨rfl,O11.out.bel⟩
theorem devicesg {Is:z6d} (K:CoreK Is) (NK:NilK) (a:Option Addr) (n cap:Nat) (zs:List Int) (w:World) (b off:Nat) (hm:n≤maxLen) (hz:0<n→a=some ⟨b,off,none⟩∧b<w.heap.size) (hc:∀ i,i<n→w.cell? ⟨b,off+i,none⟩=some (.int .u32 (zs.getD i 0))) (hu:∀ z∈zs,U32 z) :
  Calls Tryz.prog 5 #[.slice a n cap,.bool false] w fun e w'=>e=.returned (.bool true)∧Below w.heap.size w w':=by
 have HK:Hid _:=K
 have HN:Hid _:=NK
 have HZ:Hid _:=hz
 have HC:Hid _:=hc
 have HU:Hid (∀ i,U32 (zs.getD i 0)):=word_u hu
 have C0:Hid (∀ V:World,Calls Tryz.prog 12 #[.agg #[.string ⟨#[115,119]⟩,.int .i64 0,.int .i64 1,.int .i64 2,.int .i32 0]] V fun e w'=>e=.returned (.int .u32 (putN (devI 0)))∧Below V.heap.size V w'):=fun V=>by
  have:=kWord ⟨#[115,119]⟩ 0 1 2 0 V
  rw[ByteArray.toList_eq] at this
  exact this
 have C1:Hid (∀ V:World,Calls Tryz.prog 12 #[.agg #[.string ⟨#[115,119]⟩,.int .i64 0,.int .i64 3,.int .i64 4,.int .i32 0]] V fun e w'=>e=.returned (.int .u32 (putN (devI 1)))∧Below V.heap.size V w'):=fun V=>by
  have:=kWord ⟨#[115,119]⟩ 0 3 4 0 V
  rw[ByteArray.toList_eq] at this
  exact this
 have C2:Hid (∀ V:World,Calls Tryz.prog 12 #[.agg #[.string ⟨#[115,119]⟩,.int .i64 0,.int .i64 5,.int .i64 6,.int .i32 0]] V fun e w'=>e=.returned (.int .u32 (putN (devI 2)))∧Below V.heap.size V w'):=fun V=>by
  have:=kWord ⟨#[115,119]⟩ 0 5 6 0 V
  rw[ByteArray.toList_eq] at this
  exact this
 have C3:Hid (∀ V:World,Calls Tryz.prog 12 #[.agg #[.string ⟨#[115,119]⟩,.int .i64 0,.int .i64 7,.int .i64 6,.int .i32 0]] V fun e w'=>e=.returned (.int .u32 (putN (devI 3)))∧Below V.heap.size V w'):=fun V=>by
  have:=kWord ⟨#[115,119]⟩ 0 7 6 0 V
  rw[ByteArray.toList_eq] at this
  exact this
 have hq:=eqPtr2
 obtain⟨m,hmm,hm12,hmn⟩:∃ m:Nat,(if (12:Int)<(n:Int) then (12:Int) else (n:Int))=(m:Int)∧m≤12∧m≤n:=⟨min n 12,by split <;> omega,by omega,by omega⟩
 unfold maxLen at hm
 obtain⟨fs,hfs⟩:=z3f
 have HS:Hid _:=hfs
 clear K NK hz hc hu hfs
 go_enter Tryz.func5,Tryz.ntmps5
 go_wp2_with fail
 refine (C0.out _).mono ?_
 rintro e w1 ⟨rfl,b1⟩
 have B1:Hid _:=b1
 clear b1
 go_wp2_with fail
 refine (C1.out _).mono ?_
 rintro e w2 ⟨rfl,b2⟩
 have B2:Hid _:=z0e B1.out b2
 clear b2 B1
 go_wp2_with fail
 refine (C2.out _).mono ?_
 rintro e w3 ⟨rfl,b3⟩
 have B3:Hid _:=z0e B2.out b3
 clear b3 B2
 go_wp2_with fail
 refine (C3.out _).mono ?_
 rintro e w4 ⟨rfl,b4⟩
 have B4:Hid _:=z0e B3.out b4
 clear b4 B3 C0 C1 C2 C3
 go_wp2_with fail
 have A5:(w4.alloc (.cells #[.int .u32 (putN (devI 0)),.int .u32 (putN (devI 1)),.int .u32 (putN (devI 2)),.int .u32 (putN (devI 3))] 31)).heap[w4.heap.size]?=some (.cells (wordsC devW) 31):=z0g w4 _
 have B5:Hid (Below w.heap.size w (w4.alloc (.cells #[.int .u32 (putN (devI 0)),.int .u32 (putN (devI 1)),.int .u32 (putN (devI 2)),.int .u32 (putN (devI 3))] 31))):=B4.out.alloc B4.out.size _
 generalize w4.alloc (.cells #[.int .u32 (putN (devI 0)),.int .u32 (putN (devI 1)),.int .u32 (putN (devI 2)),.int .u32 (putN (devI 3))] 31)=w5 at *
 have hcc:=words_cells A5
 have hb:=(Array.getElem?_eq_some_iff.1 A5).1
 refine Calls.mono (One.new HK.out w4.heap.size 0 4 devW (.slice none 0 0) [] B5.out (show 0<4 by decide) (show 4≤1000 by decide) devW_u hb hcc (no_late _) (by decide)) ?_
 rintro e w6 ⟨p,F6,rfl,o6,-,-⟩
 have D0:Hid (DevL Is w zs m p 0 w6):=⟨_,F6,o6,fun _=>⟨rfl,rfl⟩⟩
 clear hcc hb A5 B4 B5 o6
 go_wp2_with (first | (go_at_call 13;refine (zErr6 _ _).mono ?_;rintro e wq ⟨rfl,hwq⟩;rw[hwq];clear hwq wq))
 go_loopw [9] (fun i wr=>∃ (k:Nat) (V:World),V=wr∧k≤m∧i=.int .i64 k∧Hid (DevL Is w zs m p k V)) (fun i _=>m-(intOf i).toNat)
 case atStart=>exact⟨0,_,rfl,Nat.zero_le _,rfl,D0.out⟩
 case round=>
  clear D0
  obtain⟨k,V,rfl,hk,rfl,hr⟩:=hrel
  by_cases hlt:k<m
  ·obtain⟨s,F,hO,hss⟩:=hr.out
   have O1:Hid _:=hO
   have HST:Hid _:=(hss hlt).2
   have HSE:Hid _:=(hss hlt).1
   clear hr hO hss
   obtain⟨ea,hbw⟩:=HZ.out (by omega)
   subst ea
   have HB:Hid _:=hbw
   have k0:(0:Int)≤(k:Int):=by omega
   have k1:(k:Int)<(n:Int):=by omega
   have v1:(k:Int)%4294967296=(k:Int):=by omega
   have hcell:=HC.out k (by omega)
   have hzu:=HU.out k
   obtain⟨z,hz⟩:∃ z,z=zs.getD k 0:=⟨_,rfl⟩
   rw[← hz] at hcell hzu
   have HCL:Hid _:=hcell
   have HZU:Hid _:=hzu
   have HZZ:Hid _:=hz
   have m1:z.tmod 6=z%6:=Int.tmod_eq_emod_of_nonneg hzu.1
   have BW:Hid _:=O1.out.bel
   clear hbw hcell hzu hz
   have HFD:Hid (∀ i,U32 (devF k (z%6) z i)):=z4m (z4m (z4m (z4m (z4m (z4m (z4m (fun _=>(⟨by decide,by decide⟩:U32 0)) 1 ⟨by decide,by decide⟩) 2 ⟨by omega,by omega⟩) 3 ⟨by decide,by decide⟩) 4 ⟨by have:=HZU.out.1;omega,by omega⟩) 5 ⟨by decide,by decide⟩) 6 HZU.out) 7 ⟨by decide,by decide⟩
   have Z0:Hid ((V.alloc (.cells (z0c (fun _=>0) false) 37)).heap[V.heap.size]?=some (.cells (z0c (fun _=>0) false) 37)):=z0g V _
   have ZB:Hid (Below V.heap.size V (V.alloc (.cells (z0c (fun _=>0) false) 37))):=(Below.refl _ _).alloc (Nat.le_refl _) _
   have ZW:Hid (Below w.heap.size w (V.alloc (.cells (z0c (fun _=>0) false) 37))):=BW.out.alloc BW.out.size _
   go_wp2_with (first | (have Zx:=Z0;refine z0h rfl rfl rfl rfl Zx.out (by decide) (by decide) ?_;intro wn Rn HO HL;have Bn:=HL V.heap.size V (Nat.le_refl _) ZB.out;have Wn:=HL w.heap.size w BW.out.size ZW.out;clear HO HL Z0 Zx ZB ZW) | (refine z0h rfl rfl rfl rfl (by assumption) (by decide) (by decide) ?_;intro wn Rn HO HL;have Bn:=HL V.heap.size V (Nat.le_refl _) (by assumption);have Wn:=HL w.heap.size w BW.out.size (by assumption);clear HO HL) | (refine wpList_cell_u32 rfl rfl rfl (((by assumption:Below w.heap.size w _).cell (p:=⟨b,off+k,none⟩) HB.out).trans HCL.out) ?_) | (refine z7d (by rfl) 37 (.tmp 10) rfl V.heap.size rfl 37 (z0c (devF k (z%6) z) false) _ (by assumption) HS.out rfl (by rw[z0b];exact z0o) ?_))
   have O2:Hid _:=O1.out.below HK.out Bn
   clear Bn Wn Rn O1 BW
   refine Calls.mono (One.put HK.out O2.out (devF k (z%6) z) false HFD.out) ?_
   rintro e w11 ⟨rfl,F11,o11,-,-⟩
   have DK:Hid (DevK Is w zs p k 0 w11):=⟨_,F11,_,o11,by rw[← HZZ.out];exact dev_put HST.out HSE.out,fun q=>(by omega),fun q=>(by omega),fun _=>rfl,fun q=>(by omega)⟩
   clear o11 O2 HFD HCL HZU HZZ HST HSE HB m1 v1 k1
   go_wp2_with fail
   go_loopw [11] (fun j wr=>∃ q:Nat,q≤3∧j=.int .i64 q∧Hid (DevK Is w zs p k q wr)) (fun j _=>3-(intOf j).toNat)
   case atStart=>exact⟨0,Nat.zero_le _,rfl,DK.out⟩
   case round=>
    clear DK
    obtain⟨q,hq3,rfl,hr⟩:=hrel
    by_cases hlt3:q<3
    ·go_wp2_with fail
     refine Calls.mono (hr.out.step HK.out hlt3 (by omega)) ?_
     rintro e w12 ⟨rfl,h12⟩
     have H12:Hid _:=h12
     clear h12 hr
     go_wp2_with fail
     exact⟨⟨q+1,hlt3,by go_num,H12.out⟩,by simp[intOf];omega⟩
    ·have hq33:q=3:=by omega
     subst hq33
     obtain⟨s',F',es',hO',hD',-,-,-,he⟩:=hr.out
     have he':=he rfl
     subst he'
     have O3:Hid _:=hO'
     have D3:Hid _:=hD'
     clear hr hO' hD' he
     go_wp2_with fail
     exact⟨⟨k+1,_,rfl,hlt,by go_num,⟨s',F',O3.out.mono (by omega),fun _=>⟨D3.out.set,D3.out.stop⟩⟩⟩,by simp[intOf];omega⟩
  ·have hkm:k=m:=by omega
   subst hkm
   obtain⟨s,F,hO,-⟩:=hr.out
   have O1:Hid _:=hO
   clear hr hO
   have ce:=HK.out.events O1.out.imp (by rw[devEs_len];omega)
   go_wp2_with fail
   refine Calls.mono ce ?_
   rintro e w20 ⟨v,rfl,hev,b20⟩
   obtain⟨sa,cp,bv,ov,rfl,he⟩:=hev.is
   have O2:Hid _:=O1.out.below HK.out b20
   have HE:Hid _:=he
   have el:=devEs_len zs k
   rw[el]
   clear ce hev he b20 O1
   go_wp2_with fail
   go_loopw [13] (fun j wr=>∃ (q:Nat) (V:World),V=wr∧q≤k∧j=.int .i64 q∧Hid (Below w20.heap.size w20 V)) (fun j _=>k-(intOf j).toNat)
   case atStart=>exact⟨0,_,rfl,Nat.zero_le _,rfl,Below.refl _ _⟩
   case round=>
    obtain⟨q,V2,rfl,hqk,rfl,hbr⟩:=hrel
    by_cases hlt3:q<k
    ·obtain⟨ea,hbw⟩:=HZ.out (by omega)
     subst ea
     obtain⟨esa,lbv,kc⟩:=HE.out (by rw[el];omega)
     subst esa
     obtain⟨q0,q1,q2⟩:=kc q (by rw[el];exact hlt3)
     rw[devEs_at zs k q hlt3] at q0 q1 q2
     have hcell:=HC.out q (by omega)
     have hzu:=HU.out q
     have dv:devEv zs q=⟨q,zs.getD q 0%6,zs.getD q 0⟩:=rfl
     rw[dv] at q0 q1 q2
     simp only at q0 q1 q2
     rw[← hbr.out.cell (p:=⟨bv,ov+q*3,none⟩) lbv] at q0
     rw[← hbr.out.cell (p:=⟨bv,ov+q*3+1,none⟩) lbv] at q1
     rw[← hbr.out.cell (p:=⟨bv,ov+q*3+2,none⟩) lbv] at q2
     rw[← (z0e O2.out.bel hbr.out).cell (p:=⟨b,off+q,none⟩) hbw] at hcell
     generalize zs.getD q 0=z at *
     have m1:z.tmod 6=z%6:=Int.tmod_eq_emod_of_nonneg hzu.1
     have q5:(0:Int)≤(q:Int):=by omega
     have q6:(q:Int)<(k:Int):=by omega
     have q7:(q:Int)<(n:Int):=by omega
     have hz0:=hzu.1
     have hz6:0≤z%6∧z%6<6:=⟨by omega,by omega⟩
     have w6:wrap64 (z%6)=z%6:=z0y (by omega) (by omega)
     have O3:Hid _:=O2.out.below HK.out hbr.out
     clear kc dv lbv hbw O2
     go_wp2_with fail
     go_region
     go_wp2_with fail
     exact⟨⟨q+1,_,rfl,hlt3,by go_num,hbr.out.drew⟩,by simp[intOf];omega⟩
    ·have hqk2:q=k:=by omega
     subst hqk2
     have O3:Hid _:=O2.out.below HK.out hbr.out
     clear O2 hbr
     have hz57:=eqZ57
     go_wp2_with fail
     refine Calls.mono (HN.out.word 0 _) ?_
     rintro e w31 ⟨rfl,b31⟩
     have O4:Hid _:=O3.out.below HK.out b31
     clear b31 O3
     go_wp2_with fail
     refine Calls.mono (HN.out.put (fun _=>0) false _) ?_
     rintro e w32 ⟨rfl,b32⟩
     have O5:Hid _:=O4.out.below HK.out b32
     clear b32 O4
     go_wp2_with fail
     refine Calls.mono (HN.out.step _) ?_
     rintro e w33 ⟨rfl,b33⟩
     have O6:Hid _:=O5.out.below HK.out b33
     clear b33 O5
     go_wp2_with fail
     refine Calls.mono (HN.out.time _) ?_
     rintro e w34 ⟨rfl,b34⟩
     have O7:Hid _:=O6.out.below HK.out b34
     clear b34 O6
     go_wp2_with fail
     refine Calls.mono (HN.out.events _) ?_
     rintro e w35 ⟨v,rfl,hev,b35⟩
     obtain⟨sa2,cp2,bv2,ov2,rfl,-⟩:=hev.is
     have O8:Hid _:=O7.out.below HK.out b35
     clear b35 O7 hev
     go_wp2_with fail
     refine Calls.mono (HN.out.regs _) ?_
     rintro e w36 ⟨rfl,b36⟩
     have O9:Hid _:=O8.out.below HK.out b36
     clear b36 O8
     go_wp2_with (first | (go_at_call 13;refine (zErr6 _ _).mono ?_;rintro e wq ⟨rfl,hwq⟩;rw[hwq];clear hwq wq))
     refine Calls.mono (HN.out.leak _) ?_
     rintro e w37 ⟨rfl,b37⟩
     have O10:Hid _:=O9.out.below HK.out b37
     clear b37 O9
     go_wp2_with fail
     refine Calls.mono (kawake6 HK.out _) ?_
     rintro e w38 ⟨rfl,b38⟩
     have O11:Hid _:=O10.out.below HK.out b38
     go_wp2
     go_ret
     exact⟨rfl,O11.out.bel⟩
theorem coreDevices {Is:z6d} (K:CoreK Is) (NK:NilK) (a:Option Addr) (n cap:Nat) (zs:List Int) (stop:Bool) (w:World)
  (hz:(a=none∧n=0∧cap=0∧zs=[])∨∃ q,a=some q∧n≤cap∧cap≤maxLen∧zs.length=cap∧(∀ i,i<zs.length→w.cell? (q.add i)=some (.int .u32 (zs.getD i 0)))∧∀ z∈zs,(Lit.int .u32 z).wf=true) :
  Calls Tryz.prog 5 #[.slice a n cap,.bool stop] w fun e w'=>e=.returned (.bool true)∧Below w.heap.size w w':=by
 obtain⟨b,off,h1,h2,h3,h4⟩:=z9d hz
 cases stop
 ·exact devicesg K NK a n cap zs w b off h1 h2 h3 h4
 ·exact devicess K NK a n cap zs w b off h1 h2 h3 h4
end Go.Proofs.YtilcoimelnpkeaaGreatDoor
