/-
  Contracts of functions that the statement reaches, and what they are made of, callees first.
-/
import Derived.Test.YthojokcmaodbpaaGreatDoorPra
import Derived.Test.YthojokcmaodbpaaGreatDoorPrb
import Derived.Test.YthojokcmaodbpaaGreatDoorPrq
set_option maxRecDepth 100000
set_option maxHeartbeats 8000000
namespace Go.Proofs.YthojokcmaodbpaaGreatDoor
section
open Go.RowKit
theorem take_word {zs:List Int} {n i:Nat} (hi:i<n):z0p (zs.take n) i=zs.getD i 0:=by
 unfold z0p
 rw[List.getD_eq_getElem?_getD,List.getD_eq_getElem?_getD,List.getElem?_take,if_pos hi]
theorem word_u {zs:List Int} (h:∀ z∈zs,U32 z) (i:Nat):U32 (z0p zs i):=by
 unfold z0p
 rw[List.getD_eq_getElem?_getD]
 cases hq:zs[i]? with
 | none=>exact⟨by decide,by decide⟩
 | some z=>exact h z (List.mem_of_getElem? hq)
theorem no_late (w:World):z9l w (.slice none 0 0) []:=⟨none,0,0,0,rfl,fun h=>absurd h (by decide)⟩
theorem coreRaw_way {Is:z6d} (K:CoreK Is) (a:Option Addr) (n cap:Nat) (zs:List Int) (a':Option Addr) (n' cap':Nat) (zs':List Int) (u:Bool) (w:World) (b off b' off':Nat)
  (hm:n≤maxLen) (hlz:n≤zs.length) (ha:0<n→a=some ⟨b,off,none⟩∧b<w.heap.size) (hc:∀ i,i<n→w.cell? ⟨b,off+i,none⟩=some (.int .u32 (zs.getD i 0))) (hu:∀ z∈zs,U32 z)
  (hm':n'≤maxLen) (ha':0<n'→a'=some ⟨b',off',none⟩∧b'<w.heap.size) (hc':∀ i,i<n'→w.cell? ⟨b',off'+i,none⟩=some (.int .u32 (zs'.getD i 0))) (hu':∀ z∈zs',U32 z) :
  Calls Tryz.prog 4 #[.slice a n cap,.slice a' n' cap',.bool u] w fun e w'=>e=.returned (.bool true)∧Below w.heap.size w w':=by
 have HK:Hid _:=K
 unfold maxLen at hm
 by_cases h1:100<n
 ·have d1:decide ((n:Int) > 100)=true:=decide_eq_true (by omega)
  have d2:decide ((100:Int)<(n:Int))=true:=decide_eq_true (by omega)
  clear K ha hc hu ha' hc' hu' hlz
  go_enter Tryz.func4,Tryz.ntmps4
  go_wp2_with fail
  refine (kawake6 HK.out _).mono ?_
  rintro e w1 ⟨rfl,b1⟩
  go_wp2
  go_ret
  exact⟨rfl,b1⟩
 have d2:decide ((100:Int)<(n:Int))=false:=decide_eq_false (by omega)
 by_cases h0:n=0
 ·subst h0
  clear K ha hc hu ha' hc' hu' hlz
  go_enter Tryz.func4,Tryz.ntmps4
  go_wp2_with fail
  refine (HK.out.nothing a cap (.slice none 0 0) [] _ (no_late _)).mono ?_
  rintro e w1 ⟨rfl,b1⟩
  have B1:Hid _:=b1
  clear b1
  go_wp2_with (first | (go_at_call 14;refine (zErr6 _ _).mono ?_;rintro e wq ⟨rfl,hwq⟩;rw[hwq];clear hwq wq))
  refine (kawake6 HK.out _).mono ?_
  rintro e w2 ⟨rfl,b2⟩
  have B2:=z0e B1.out b2
  go_wp2
  go_ret
  exact⟨rfl,B2⟩
 obtain⟨rfl,hb⟩:=ha (by omega)
 have e0:((n:Int)==0)=false:=by rw[beq_eq_false_iff_ne];omega
 have hlen:(zs.take n).length=n:=by rw[List.length_take];omega
 have HC:Hid (∀ W,Below w.heap.size w W→∀ i,i<(zs.take n).length→W.cell? ⟨b,off+i,none⟩=some (.int .u32 (z0p (zs.take n) i))):=fun W hB i hi=>by
  rw[hlen] at hi
  rw[hB.cell (p:=⟨b,off+i,none⟩) hb,take_word hi]
  exact hc i hi
 have HU:Hid (∀ i,U32 (z0p (zs.take n) i)):=word_u fun z hz=>hu z (List.mem_of_mem_take hz)
 have CN:Hid _:=K.new b off cap (zs.take n) (.slice none 0 0) [] w (by omega) (by omega) HU.out hb (HC.out _ (Below.refl _ _)) (no_late w) (by decide)
 have CR:Hid (∀ W,Below w.heap.size w W→Calls Tryz.prog 15 #[.slice a' n' cap',.bool u] W fun e w'=>e=.returned (.agg (z0c (regsF zs' n') u))∧Below W.heap.size W w'):=fun W hB=>
  lregs a' b' off' n' cap' zs' u W hm' (fun h=>⟨(ha' h).1,Nat.lt_of_lt_of_le (ha' h).2 hB.size⟩) (fun i hi=>by rw[hB.cell (p:=⟨b',off'+i,none⟩) (ha' (by omega)).2];exact hc' i hi)
 have HF:Hid (∀ i,U32 (regsF zs' n' i)):=fun i=>regsP_u (wat_u hu' n') 8 i
 have CS1:Hid _:=fun W hB=>ksteps K b off cap (zs.take n) (.slice none 0 0) [] (regsF zs' n') u 60 W (by omega) (by omega) HU.out (Nat.lt_of_lt_of_le hb hB.size) (HC.out W hB) (no_late W) (by decide) (fun i=>by simp) HF.out (by decide)
 rw[hlen] at CN CS1
 clear K hc hu ha' hc' hu' hlz hm' HC HU
 generalize regsF zs' n'=f at *
 go_enter Tryz.func4,Tryz.ntmps4
 go_wp2_with fail
 refine Calls.mono CN.out ?_
 rintro e w1 ⟨p,F,rfl,_,b1,_⟩
 have B1:Hid _:=b1
 clear b1 CN
 go_wp2_with fail
 refine (CR.out _ B1.out).mono ?_
 rintro e w2 ⟨rfl,b2⟩
 have B2:Hid _:=z0e B1.out b2
 clear b2 CR B1
 go_wp2_with fail
 refine (CS1.out _ B2.out).mono ?_
 rintro e w3 ⟨rfl,b3⟩
 have B3:Hid _:=z0e B2.out b3
 clear b3 CS1 B2
 go_wp2_with fail
 refine (kawake6 HK.out _).mono ?_
 rintro e w4 ⟨rfl,b4⟩
 have B4:=z0e B3.out b4
 go_wp2
 go_ret
 exact⟨rfl,B4⟩
theorem coreRaw {Is:z6d} (K:CoreK Is) (a:Option Addr) (n cap:Nat) (zs:List Int) (a':Option Addr) (n' cap':Nat) (zs':List Int) (u:Bool) (w:World)
  (hz:(a=none∧n=0∧cap=0∧zs=[])∨∃ q,a=some q∧n≤cap∧cap≤maxLen∧zs.length=cap∧(∀ i,i<zs.length→w.cell? (q.add i)=some (.int .u32 (zs.getD i 0)))∧∀ z∈zs,(Lit.int .u32 z).wf=true)
  (hz':(a'=none∧n'=0∧cap'=0∧zs'=[])∨∃ q,a'=some q∧n'≤cap'∧cap'≤maxLen∧zs'.length=cap'∧(∀ i,i<zs'.length→w.cell? (q.add i)=some (.int .u32 (zs'.getD i 0)))∧∀ z∈zs',(Lit.int .u32 z).wf=true) :
  Calls Tryz.prog 4 #[.slice a n cap,.slice a' n' cap',.bool u] w fun e w'=>e=.returned (.bool true)∧Below w.heap.size w w':=by
 have hl:n≤zs.length:=by
  rcases hz with ⟨_,h,_,_⟩ | ⟨_,_,h,_,h',_⟩ <;> omega
 obtain⟨c,off,h1,h2,h3,h4⟩:=z9d hz
 obtain⟨c',off',g1,g2,g3,g4⟩:=z9d hz'
 exact coreRaw_way K a n cap zs a' n' cap' zs' u w c off c' off' h1 hl h2 h3 h4 g1 g2 g3 g4
end
end Go.Proofs.YthojokcmaodbpaaGreatDoor
