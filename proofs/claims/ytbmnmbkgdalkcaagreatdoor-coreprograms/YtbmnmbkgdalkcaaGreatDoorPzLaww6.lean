/-
  Contracts of functions that the statement reaches, and what they are made of, callees first.
-/
import Derived.Test.YtbmnmbkgdalkcaaGreatDoorPzLawq6
set_option maxRecDepth 100000
set_option maxHeartbeats 8000000
namespace Go.Proofs.YtbmnmbkgdalkcaaGreatDoor
open Go.RowKit
theorem prog_cells {w:World} {v:Value} {l:List Int} {sb:Option Addr} {cp:Nat} {wr:World} (h:z3s w v l wr) (hv:v=.slice sb l.length cp) (h0:0<l.length):∃ g,sb=some ⟨g,0,none⟩∧g<wr.heap.size∧∀ i,i<l.length→wr.cell? ⟨g,0+i,none⟩=some (.int .u32 (z0p l i)):=by
 obtain⟨_,⟨e1,e2⟩ | ⟨g,cap,cur,e1,e2,e3,e4,e5,e6,e7⟩⟩:=h.own
 ·omega
 ·rw[hv] at e1
  simp only[Value.slice.injEq,true_and] at e1
  refine⟨g,e1.1,(z0a e3).2.2,fun i hi=>?_⟩
  rw[Nat.zero_add]
  refine (z0a e3).1 i _ ?_
  have h1:(cur.toList.take (l.length*1))[i]?=some (.int .u32 (z0p l i)):=by
   rw[e7]
   unfold mw z0p
   rw[List.getElem?_map,List.getD_eq_getElem?_getD,List.getElem?_eq_getElem hi]
   rfl
  rw[List.getElem?_take,if_pos (by omega)] at h1
  rw[← Array.getElem?_toList]
  exact h1
theorem corePrograms_way {Is:z6d} (K:CoreK Is) (sa:Option Addr) (n cap:Nat) (zs:List Int) (a':Option Addr) (n' cap':Nat) (zs':List Int) (u:Bool) (la:Option Addr) (ln lc:Nat) (lz:List Int) (w:World) (b off b' off' bl loff:Nat)
  (hm:n≤maxLen) (ha:0<n→sa=some ⟨b,off,none⟩∧b<w.heap.size) (hc:∀ i,i<n→w.cell? ⟨b,off+i,none⟩=some (.int .u8 (zs.getD i 0))) (hz:∀ i,0≤zs.getD i 0∧zs.getD i 0≤255)
  (hm':n'≤maxLen) (ha':0<n'→a'=some ⟨b',off',none⟩∧b'<w.heap.size) (hc':∀ i,i<n'→w.cell? ⟨b',off'+i,none⟩=some (.int .u32 (zs'.getD i 0))) (hu':∀ z∈zs',U32 z)
  (hml:ln≤maxLen) (hlz:ln≤lz.length) (hal:0<ln→la=some ⟨bl,loff,none⟩∧bl<w.heap.size) (hcl:∀ i,i<ln→w.cell? ⟨bl,loff+i,none⟩=some (.int .i64 (lz.getD i 0))) :
  Calls Tryz.prog 3 #[.slice sa n cap,.slice a' n' cap',.bool u,.slice la ln lc] w fun e w'=>e=.returned (.bool true)∧Below w.heap.size w w':=by
 have HK:Hid _:=K
 unfold maxLen at hml
 by_cases h20:20<ln
 ·have d2:decide ((20:Int)<(ln:Int))=true:=decide_eq_true (by omega)
  clear K ha hc hz hm hm' ha' hc' hu' hal hcl hlz
  go_enter Tryz.func3,Tryz.ntmps3
  go_wp2_with fail
  refine (kawake6 HK.out _).mono ?_
  rintro e w1 ⟨rfl,b1⟩
  go_wp2
  go_ret
  exact⟨rfl,b1⟩
 have d2:decide ((20:Int)<(ln:Int))=false:=decide_eq_false (by omega)
 have CP:Hid (∀ W,Below w.heap.size w W→Calls Tryz.prog 6 #[.slice sa n cap] W fun e w'=>∃ sb cp l,l.length=80∧e=.returned (.slice sb 80 cp)∧z3s W (.slice sb 80 cp) l w'):=fun W hB=>
  kProgram sa n cap zs W b off hm (fun h=>⟨(ha h).1,Nat.lt_of_lt_of_le (ha h).2 hB.size⟩) (fun i hi=>by rw[hB.cell (p:=⟨b,off+i,none⟩) (ha (by omega)).2];exact hc i hi) hz
 have CB:Hid (∀ W,Below w.heap.size w W→Calls Tryz.prog 7 #[.slice a' n' cap',.bool u] W fun e w'=>∃ f:Nat→Int,(∀ i,U32 (f i))∧e=.returned (.agg (z0c f u))∧Below W.heap.size W w'):=fun W hB=>
  kBegin a' n' cap' zs' u W b' off' hm' (fun h=>⟨(ha' h).1,Nat.lt_of_lt_of_le (ha' h).2 hB.size⟩) (fun i hi=>by rw[hB.cell (p:=⟨b',off'+i,none⟩) (ha' (by omega)).2];exact hc' i hi) hu'
 have hlen:(lz.take ln).length=ln:=by rw[List.length_take];omega
 have LT:Hid (∀ W,Below w.heap.size w W→z9l W (.slice la ln lc) (lz.take ln)):=fun W hB=>⟨la,lc,bl,loff,by rw[hlen],fun h=>by
  rw[hlen] at h
  refine⟨(hal h).1,Nat.lt_of_lt_of_le (hal h).2 hB.size,fun i hi=>?_⟩
  rw[hlen] at hi
  rw[hB.cell (p:=⟨bl,loff+i,none⟩) (hal h).2,hcl i hi]
  congr 2
  rw[List.getD_eq_getElem?_getD,List.getD_eq_getElem?_getD,List.getElem?_take,if_pos hi]⟩
 have LE:Hid ((∀ q,q<ln→lz.getD q 0≤1048576)→∀ i,(lz.take ln).getD i 0≤2097152):=fun h i=>by
  rw[List.getD_eq_getElem?_getD,List.getElem?_take]
  by_cases hi:i<ln
  ·rw[if_pos hi,← List.getD_eq_getElem?_getD]
   have:=h i hi
   omega
  ·rw[if_neg hi];decide
 have HL20:Hid (ln≤20):=by show _≤_;omega
 have HCL:Hid (∀ W,Below w.heap.size w W→∀ i,i<ln→la=some ⟨bl,loff,none⟩∧W.cell? ⟨bl,loff+i,none⟩=some (.int .i64 (lz.getD i 0))):=fun W hB i hi=>⟨(hal (by omega)).1,by rw[hB.cell (p:=⟨bl,loff+i,none⟩) (hal (by omega)).2];exact hcl i hi⟩
 have HLN:Hid _:=hlen
 clear K ha hc hz hm hm' ha' hc' hu' hal hcl hlz h20 hml hlen
 go_enter Tryz.func3,Tryz.ntmps3
 go_wp2_with fail
 go_loopw [9] (fun i wr=>∃ k:Nat,k≤ln∧i=.int .i64 k∧Hid ((∀ q,q<k→lz.getD q 0≤1048576)∧Below w.heap.size w wr)) (fun i _=>ln-(intOf i).toNat)
 case atStart=>exact⟨0,Nat.zero_le _,rfl,fun q h=>absurd h (Nat.not_lt_zero q),Below.refl _ _⟩
 case round=>
  obtain⟨k,hk,rfl,hr⟩:=hrel
  by_cases hlt:k<ln
  ·obtain⟨rfl,c1⟩:=HCL.out _ hr.out.2 k hlt
   have i0:(0:Int)≤(k:Int):=by omega
   have i1:(k:Int)<(ln:Int):=by omega
   have d1:decide ((k:Int)<(ln:Int))=true:=decide_eq_true i1
   have M5:Hid (ln-(k+1)<ln-k∧k≤240):=⟨by omega,by have:=HL20.out;omega⟩
   have HLT:Hid _:=hlt
   have hl20:=HL20.out
   clear hlt hk
   generalize hv:lz.getD k 0=v at *
   have HV:Hid (lz.getD k 0=v):=hv
   clear hv
   by_cases hbig:1048576<v
   ·have d3:decide ((1048576:Int)<v)=true:=decide_eq_true hbig
    clear hbig
    go_wp2_with fail
    refine (kawake6 HK.out _).mono ?_
    rintro e w1 ⟨rfl,b1⟩
    have B1:=z0e hr.out.2 b1
    go_wp2
    go_ret
    exact⟨rfl,B1⟩
   ·have d3:decide ((1048576:Int)<v)=false:=decide_eq_false hbig
    have HB:Hid (v≤1048576):=Int.not_lt.1 hbig
    clear hbig
    go_wp2_with fail
    exact⟨⟨k+1,HLT.out,by go_num,fun q hq=>by
     rcases Nat.lt_succ_iff_lt_or_eq.mp hq with h | h
     ·exact hr.out.1 q h
     ·rw[h,HV.out];exact HB.out,hr.out.2⟩,by simp only[intOf];exact M5.out.1⟩
  ·have hkn:k=ln:=by omega
   subst hkn
   have d1:decide ((k:Int)<(k:Int))=false:=decide_eq_false (by omega)
   have LB:Hid _:=LE.out hr.out.1
   have B0:Hid _:=hr.out.2
   clear hr HCL LE hlt hk
   go_wp2_with fail
   refine (CP.out _ B0.out).mono ?_
   rintro e w1 ⟨sb,cp,l,hl,rfl,hp⟩
   obtain⟨g,rfl,hg,hcells⟩:=prog_cells hp (by rw[hl]) (by omega)
   have B1:Hid (Below w.heap.size w w1):=z0e B0.out hp.below
   have HG:Hid _:=hg
   have HCe:Hid _:=hcells
   have HU:Hid (∀ i,U32 (z0p l i)):=word_u hp.u
   have HLl:Hid _:=hl
   clear hp hg hcells hl B0 CP
   go_wp2_with fail
   refine (CB.out _ B1.out).mono ?_
   rintro e w2 ⟨f,hf,rfl,b2⟩
   have B2:Hid _:=z0e B1.out b2
   have CS1:Hid _:=ksteps HK.out g 0 cp l (.slice la k lc) (lz.take k) f u 150 w2 (by rw[HLl.out];decide) (by rw[HLl.out];decide) HU.out (Nat.lt_of_lt_of_le HG.out b2.size) (fun i hi=>by rw[b2.cell (p:=⟨g,0+i,none⟩) HG.out];exact HCe.out i hi) (LT.out _ B2.out) (by rw[HLN.out];have:=HL20.out;omega) LB.out hf (by decide)
   rw[HLl.out] at CS1
   clear b2 CB hf HCe HU HG LT LB
   go_wp2_with fail
   refine Calls.mono CS1.out ?_
   rintro e w3 ⟨rfl,b3⟩
   have B3:Hid _:=z0e B2.out b3
   clear b3 CS1 B2 B1
   go_wp2_with fail
   refine (kawake6 HK.out _).mono ?_
   rintro e w4 ⟨rfl,b4⟩
   have B4:=z0e B3.out b4
   go_wp2
   go_ret
   exact⟨rfl,B4⟩
theorem came_any {q:IntKind} {a:Option Addr} {n cap:Nat} {zs:List Int} {w:World}
  (hz:(a=none∧n=0∧cap=0∧zs=[])∨∃ p,a=some p∧n≤cap∧cap≤maxLen∧zs.length=cap∧(∀ i,i<zs.length→w.cell? (p.add i)=some (.int q (zs.getD i 0)))∧∀ z∈zs,(Lit.int q z).wf=true) :
  ∃ b off,n≤maxLen∧n≤zs.length∧(0<n→a=some ⟨b,off,none⟩∧b<w.heap.size)∧(∀ i,i<n→w.cell? ⟨b,off+i,none⟩=some (.int q (zs.getD i 0)))∧∀ z∈zs,(Lit.int q z).wf=true:=by
 rcases hz with ⟨rfl,rfl,rfl,rfl⟩ | ⟨p,rfl,hl,hmc,hzl,hcell,hwz⟩
 ·exact⟨0,0,Nat.zero_le _,Nat.zero_le _,fun h=>absurd h (by omega),fun i hi=>absurd hi (by omega),fun z hzz=>by cases hzz⟩
 ·by_cases hn:n=0
  ·subst hn
   exact⟨0,0,Nat.zero_le _,Nat.zero_le _,fun h=>absurd h (by omega),fun i hi=>absurd hi (by omega),hwz⟩
  ·obtain⟨c,off',spot⟩:=p
   have hc:=hcell 0 (by omega)
   have hspot:spot=none:=by simpa [Addr.add] using World.cell?_spot hc
   subst hspot
   have hb:c<w.heap.size:=by simpa [Addr.add] using World.block_lt_of_cell? _ _ hc
   exact⟨c,off',by omega,by omega,fun _=>⟨rfl,hb⟩,fun i hi=>by have:=hcell i (by omega);rwa [add_came] at this,hwz⟩
theorem corePrograms {Is:z6d} (K:CoreK Is) (sa:Option Addr) (n cap:Nat) (zs:List Int) (a':Option Addr) (n' cap':Nat) (zs':List Int) (u:Bool) (la:Option Addr) (ln lc:Nat) (lz:List Int) (w:World)
  (hz:(sa=none∧n=0∧cap=0∧zs=[])∨∃ p,sa=some p∧n≤cap∧cap≤maxLen∧zs.length=cap∧(∀ i,i<zs.length→w.cell? (p.add i)=some (.int .u8 (zs.getD i 0)))∧∀ z∈zs,(Lit.int .u8 z).wf=true)
  (hz':(a'=none∧n'=0∧cap'=0∧zs'=[])∨∃ p,a'=some p∧n'≤cap'∧cap'≤maxLen∧zs'.length=cap'∧(∀ i,i<zs'.length→w.cell? (p.add i)=some (.int .u32 (zs'.getD i 0)))∧∀ z∈zs',(Lit.int .u32 z).wf=true)
  (hl:(la=none∧ln=0∧lc=0∧lz=[])∨∃ p,la=some p∧ln≤lc∧lc≤maxLen∧lz.length=lc∧(∀ i,i<lz.length→w.cell? (p.add i)=some (.int .i64 (lz.getD i 0)))∧∀ z∈lz,(Lit.int .i64 z).wf=true) :
  Calls Tryz.prog 3 #[.slice sa n cap,.slice a' n' cap',.bool u,.slice la ln lc] w fun e w'=>e=.returned (.bool true)∧Below w.heap.size w w':=by
 obtain⟨b,off,h1,_,h3,h4,h5⟩:=came_any hz
 obtain⟨b',off',g1,g2,g3,g4⟩:=z9d hz'
 obtain⟨bl,loff,l1,l2,l3,l4,_⟩:=came_any hl
 refine corePrograms_way K sa n cap zs a' n' cap' zs' u la ln lc lz w b off b' off' bl loff h1 h3 h4 (fun i=>?_) g1 g2 g3 g4 l1 l2 l3 l4
 rw[List.getD_eq_getElem?_getD]
 cases hq:zs[i]? with
 | none=>exact⟨by decide,by decide⟩
 | some z=>exact bounds_u8 (h5 z (List.mem_of_getElem? hq))
end Go.Proofs.YtbmnmbkgdalkcaaGreatDoor
