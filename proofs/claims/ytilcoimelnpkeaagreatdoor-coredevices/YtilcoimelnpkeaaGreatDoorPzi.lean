/-
  Contracts of functions that the statement reaches, and what they are made of, callees first.
-/
import Derived.Deep.MidRow
import Derived.DeepKeys4
import Derived.Maps.OwnSet
import Derived.Test.YtilcoimelnpkeaaGreatDoorPza
import Derived.Test.YtilcoimelnpkeaaGreatDoorPzd
import Derived.Test.YtilcoimelnpkeaaGreatDoorPzo
set_option maxRecDepth 100000
set_option maxHeartbeats 8000000
namespace Go.Proofs.YtilcoimelnpkeaaGreatDoor
open Go.RowKit
theorem wsext (x n:Int) (hx:U32 x) (w:World) :
  Calls Tryz.prog 47 #[.int .u32 x,.int .i64 n] w fun e w'=>e=.returned (.int .u32 (z2g x n))∧w'=w:=by
 obtain⟨h0,h1⟩:=hx
 by_cases c1:n<1
 ·go_enter Tryz.func47,Tryz.ntmps47
  go_wp2
  go_ret
  exact⟨z6o (by unfold z2g;rw[if_pos (Or.inl c1)]),rfl⟩
 ·by_cases c2:32<n
  ·go_enter Tryz.func47,Tryz.ntmps47
   go_wp2
   go_ret
   exact⟨z6o (by unfold z2g;rw[if_pos (Or.inr c2)]),rfl⟩
  ·go_enter Tryz.func47,Tryz.ntmps47
   go_wp2
   go_ret
   exact⟨z6o (by unfold z2g;rw[if_neg (by omega)]),rfl⟩
theorem z1m (x lo n:Int) (hx:U32 x) (c1:0≤lo) (c2:lo<32) (c3:1≤n) (c4:n≤32-lo) (w:World) :
  Calls Tryz.prog 50 #[.int .u32 x,.int .i64 lo,.int .i64 n] w fun e w'=>e=.returned (.int .u32 (z0j x lo n))∧w'=w:=by
 obtain⟨h0,h1⟩:=hx
 go_enter Tryz.func50,Tryz.ntmps50
 go_wp2
 go_ret
 exact⟨z6o (by unfold z0j;rw[if_neg (by omega)]),rfl⟩
theorem csigned (x n:Int) (hx:U32 x) (w:World) :
  Calls Tryz.prog 86 #[.int .u32 x,.int .i64 n] w fun e w'=>e=.returned (.int .i32 (wrap32 (z2g x n)))∧w'=w:=by
 have S:Hid _:=wsext x n hx
 clear hx
 generalize z2g x n=v at *
 go_enter Tryz.func86,Tryz.ntmps86
 go_wp2_with fail
 refine (S.out _).mono ?_
 rintro e w' ⟨rfl,rfl⟩
 go_wp2
 go_ret
 exact⟨rfl,rfl⟩
theorem ccut (x lo n:Int) (hx:U32 x) (c1:0≤lo) (c2:lo<32) (c3:1≤n) (c4:n≤32-lo) (w:World) :
  Calls Tryz.prog 88 #[.int .u32 x,.int .i64 lo,.int .i64 n] w fun e w'=>e=.returned (.agg #[.int .u32 (z0j x lo n),.int .i64 n])∧w'=w.alloc (.cells #[.int .u32 (z0j x lo n),.int .i64 n] 145):=by
 have S:Hid _:=z1m x lo n hx c1 c2 c3 c4
 clear hx
 generalize z0j x lo n=v at *
 go_enter Tryz.func88,Tryz.ntmps88
 go_wp2_with fail
 refine (S.out _).mono ?_
 rintro e w' ⟨rfl,rfl⟩
 go_wp2
 exact bodyPost_ret (v:=.agg #[.int .u32 v,.int .i64 n]) (by simp[results,Tryz.results88,go_sem]) rfl ⟨rfl,rfl⟩
def z3v:List (Int × Int)→Int→Int
 | [],x=>x
 | p::l,x=>z3v l (bits .or .u32 (x*2 ^ p.2.toNat%4294967296) p.1)
theorem joinV_snoc:∀ (l:List (Int × Int)) (p:Int × Int) (x:Int),z3v (l++[p]) x=bits .or .u32 (z3v l x*2 ^ p.2.toNat%4294967296) p.1
 | [],_,_=>rfl
 | _::l,p,_=>joinV_snoc l p _
theorem joinV_u32:∀ (l:List (Int × Int)) (x:Int),U32 x→U32 (z3v l x)
 | [],_,h=>h
 | _::l,_,_=>joinV_u32 l _ (z1t _ _ _)
theorem cjoin (ps:List (Int × Int)) (b:Nat) (n:Nat) (hn:n=ps.length) (hl:n≤8) (hp:∀ p∈ps,1≤p.2∧p.2≤32) (w:World)
  (hc:∀ j p,ps[j]?=some p→w.cell? ⟨b,j*2,none⟩=some (.int .u32 p.1)∧w.cell? ⟨b,j*2+1,none⟩=some (.int .i64 p.2)) (hb:b<w.heap.size) :
  Calls Tryz.prog 87 #[.slice (some ⟨b,0,none⟩) n n] w fun e w'=>e=.returned (.int .u32 (z3v ps 0))∧Below w.heap.size w w':=by
 have HN:Hid (n=ps.length):=hn
 clear hn
 go_enter Tryz.func87,Tryz.ntmps87
 go_wp2_with fail
 go_loopw [3,8] (fun x i wr=>∃ k:Nat,k≤n∧i=.int .i64 k∧x=.int .u32 (z3v (ps.take k) 0)∧Hid (Below w.heap.size w wr)) (fun _ i _=>n-(intOf i).toNat)
 case atStart=>exact⟨0,Nat.zero_le _,rfl,rfl,Below.refl _ _⟩
 case round=>
  obtain⟨k,hk,rfl,rfl,hbr⟩:=hrel
  by_cases hlt:k<n
  ·obtain⟨p,hpk⟩:∃ p,ps[k]?=some p:=⟨ps[k]'(by rw[← HN.out];exact hlt),List.getElem?_eq_getElem (by rw[← HN.out];exact hlt)⟩
   obtain⟨c0,c1⟩:=hc k p hpk
   have d0:wr.cell? ⟨b,k*2,none⟩=some (.int .u32 p.1):=by rw[hbr.out.cell (p:=⟨b,k*2,none⟩) hb];exact c0
   have d1:wr.cell? ⟨b,k*2+1,none⟩=some (.int .i64 p.2):=by rw[hbr.out.cell (p:=⟨b,k*2+1,none⟩) hb];exact c1
   obtain⟨q1,q2⟩:=hp p (List.mem_of_getElem? hpk)
   have hbr2:b<wr.heap.size:=Nat.lt_of_lt_of_le hb hbr.out.size
   have HV:Hid (z3v (ps.take (k+1)) 0=bits .or .u32 (z3v (ps.take k) 0*2 ^ p.2.toNat%4294967296) p.1):=by
    show _=_
    rw[List.take_add_one,hpk]
    exact joinV_snoc _ _ _
   generalize z3v (ps.take k) 0=x at *
   clear c0 c1
   obtain⟨v,m⟩:=p
   simp only at d0 d1 q1 q2 HV
   go_wp2_with fail
   go_region
   go_wp2_with fail
   refine⟨⟨k+1,hlt,by go_num,by rw[HV.out],?_⟩,by simp[intOf];omega⟩
   exact (hbr.out.alloc hbr.out.size _).drew
  ·have hkn:k=n:=by omega
   subst hkn
   have HX:Hid (z3v (ps.take k) 0=z3v ps 0):=by
    show _=_
    rw[HN.out,List.take_length]
   generalize z3v (ps.take k) 0=x at *
   go_wp2
   go_ret
   exact⟨z6o HX.out,hbr.out⟩
def lay9 (k:Int):Int:=if k=82 then 0 else if k=73 then 1 else if k=83 then 2 else if k=115 then 3 else if k=66 then 4 else if k=85 then 5 else if k=74 then 6 else if k=67 then 7 else 8
def rowC (k:Nat):List Value:=[.string (opAt k),.int .i64 (lay9 (z1d k).2.k),.int .u32 (z1d k).2.o,.int .u32 (z1d k).2.f,.int .u32 (z1d k).2.g]
def rowsC:Nat→List Value
 | 0=>[]
 | k+1=>rowsC k++rowC k
def z7p:List Value:=rowsC 53
def zrows:Nat→List Value
 | 0=>[]
 | k+1=>zrows k++[.string ByteArray.empty,.int .i64 0,.int .u32 0,.int .u32 0,.int .u32 0]
def zcells:Array Value:=(zrows 53).toArray
theorem zcells_size:zcells.size=265:=by decide +kernel
theorem indexF (k:Nat) (h:k<53) (w:World):(Instr.index 178 (.agg z7p.toArray) (.int .i64 k)).run Tryz.prog w=.ok (.agg (rowC k).toArray) w:=by
 have h':k=0∨k=1∨k=2∨k=3∨k=4∨k=5∨k=6∨k=7∨k=8∨k=9∨k=10∨k=11∨k=12∨k=13∨k=14∨k=15∨k=16∨k=17∨k=18∨k=19∨k=20∨k=21∨k=22∨k=23∨k=24∨k=25∨k=26∨k=27∨k=28∨k=29∨k=30∨k=31∨k=32∨k=33∨k=34∨k=35∨k=36∨k=37∨k=38∨k=39∨k=40∨k=41∨k=42∨k=43∨k=44∨k=45∨k=46∨k=47∨k=48∨k=49∨k=50∨k=51∨k=52:=by omega
 rcases h' with rfl | rfl | rfl | rfl | rfl | rfl | rfl | rfl | rfl | rfl | rfl | rfl | rfl | rfl | rfl | rfl | rfl | rfl | rfl | rfl | rfl | rfl | rfl | rfl | rfl | rfl | rfl | rfl | rfl | rfl | rfl | rfl | rfl | rfl | rfl | rfl | rfl | rfl | rfl | rfl | rfl | rfl | rfl | rfl | rfl | rfl | rfl | rfl | rfl | rfl | rfl | rfl | rfl <;> (show _=_) <;> kernel_rfl
def rowVals:Nat→List Value
 | 0=>[]
 | k+1=>rowVals k++[.agg (rowC k).toArray]
theorem fcells_len:z7p.length=265:=by decide +kernel
theorem fcells_size:z7p.toArray.size=265:=by decide +kernel
theorem fcells_one:z7p.toArray.all (·.oneCell')=true:=by decide +kernel
theorem infoF:(Tryz.prog.info? 178).map (·.size)=some 265:=by kernel_rfl
theorem undF:∃ d,Tryz.prog.underlying 178=some d∧d.isRow=true:=⟨.array 53 118,by kernel_rfl,rfl⟩
theorem there_new (w:World):(w.alloc (.cells zcells 178)).there w.heap.size 0 265:=by
 intro j hj
 have hl:j<(zrows 53).length:=by
  have:=zcells_size
  unfold zcells at this
  simp only[List.size_toArray] at this
  omega
 constructor
 ·have:=cell_new w (zrows 53) 178 (0+j) _ (by rw[Nat.zero_add];exact List.getElem?_eq_getElem hl)
  unfold zcells
  rw[this]
  rfl
 ·rw[frozen?_alloc_cells]
  simp[World.frozen?]
theorem cforms (w:World) :
  Calls Tryz.prog 109 #[] w fun e w'=>e=.returned (.agg z7p.toArray)∧Below w.heap.size w w':=by
 go_enter Tryz.func109,Tryz.ntmps109
 refine wp_seq_k ?_
 intro K hK
 refine wp_region_list ?_
 refine wpList_take 1 ⟨(.pointer (some ⟨w.heap.size,0,none⟩)::List.replicate 54 undef).toArray,[]⟩ (w.alloc (.cells zcells 178)) (by kernel_rfl) ?_
 refine hK _ _ ?_
 refine wp_seq_k ?_
 intro K2 hK2
 refine wp_region_list ?_
 have hth:=there_new w
 have hbw:Below w.heap.size w (w.alloc (.cells zcells 178)):=(Below.refl _ _).alloc (Nat.le_refl _) _
 generalize w.alloc (.cells zcells 178)=w1 at *
 refine wpList_take 54 ⟨(Value.pointer (some ⟨w.heap.size,0,none⟩)::(rowVals 53++[Value.agg z7p.toArray])).toArray,[]⟩ w1 (by kernel_rfl) ?_
 refine wpList_store_mid rfl 178 (.tmp 0) (.tmp 54) rfl w.heap.size 0 z7p.toArray (by kernel_rfl) (by kernel_rfl) (by rw[fcells_size];exact hth) (by rw[infoF,fcells_size]) fcells_one ?_
 refine hK2 _ _ ?_
 refine wp_ret ?_
 obtain⟨d,hu,hd⟩:=undF
 have hra:(w1.setCells w.heap.size 0 z7p.toArray.toList).rangeAt w.heap.size 0 z7p:=World.rangeAt_setCells_same _ _ _ _ (by rw[fcells_len];exact hth)
 have hl:=run_loadVar_mid (P:=Tryz.prog) _ w.heap.size 0 178 z7p d hra hu hd (by rw[infoF,fcells_len])
 refine bodyPost_ret (v:=.agg z7p.toArray) ?_ rfl ⟨rfl,z9j (Nat.le_refl _) _ _ _ hbw⟩
 exact results_cell Tryz.results109 rfl hl
def pcells:List (Int × Int)→List Value
 | []=>[]
 | p::l=>.int .u32 p.1 :: .int .i64 p.2::pcells l
theorem pcells_at:∀ (ps:List (Int × Int)) (j:Nat) (p:Int × Int),ps[j]?=some p→(pcells ps)[j*2]?=some (.int .u32 p.1)∧(pcells ps)[j*2+1]?=some (.int .i64 p.2)
 | [],_,_,h=>by simp at h
 | q::l,0,p,h=>by
  simp only[List.getElem?_cons_zero,Option.some.injEq] at h
  subst h
  exact⟨rfl,rfl⟩
 | q::l,j+1,p,h=>by
  simp only[List.getElem?_cons_succ] at h
  have:=pcells_at l j p h
  rw[show (j+1)*2=j*2+1+1 by omega]
  exact this
theorem cjoin_new (ps:List (Int × Int)) (n:Nat) (hn:n=ps.length) (hl:n≤8) (hp:∀ p∈ps,1≤p.2∧p.2≤32) (w:World) :
  Calls Tryz.prog 87 #[.slice (some ⟨w.heap.size,0,none⟩) n n] (w.alloc (.cells (pcells ps).toArray 145)) fun e w'=>e=.returned (.int .u32 (z3v ps 0))∧Below w.heap.size w w':=by
 refine (cjoin ps w.heap.size n hn hl hp _ (fun j p h=>?_) (by simp)).mono ?_
 ·exact⟨cell_new w _ _ _ _ (pcells_at ps j p h).1,cell_new w _ _ _ _ (pcells_at ps j p h).2⟩
 ·rintro e w' ⟨rfl,hb⟩
  exact⟨rfl,z1u hb⟩
def polyV:List (Int × Int)→Int→Int
 | [],x=>x
 | p::l,x=>polyV l (x*2 ^ p.2.toNat+p.1)
def bsum:List (Int × Int)→Nat
 | []=>0
 | p::l=>p.2.toNat+bsum l
def fitsAll:List (Int × Int)→Prop
 | []=>True
 | p::l=>(0≤p.1∧p.1<2 ^ p.2.toNat)∧fitsAll l
theorem pow_le {u v:Nat} (h:u≤v):(2:Int) ^ u≤2 ^ v:=by
 have:(2:Nat) ^ u≤2 ^ v:=Nat.pow_le_pow_right (by omega) h
 have h2:((2 ^ u:Nat):Int)≤((2 ^ v:Nat):Int):=by omega
 simpa using h2
theorem z9a:∀ (l:List (Int × Int)) (x:Int) (u:Nat),fitsAll l→0≤x→x<2 ^ u→u+bsum l≤32→z3v l x=polyV l x
 | [],_,_,_,_,_,_=>rfl
 | p::l,x,u,hf,h0,h1,hs=>by
  obtain⟨⟨p0,p1⟩,hf⟩:=hf
  simp only[bsum] at hs
  have hpp:(0:Int)<2 ^ p.2.toNat:=Int.pow_pos (by omega)
  have hx0:0≤x*2 ^ p.2.toNat:=Int.mul_nonneg h0 (by omega)
  have hx1:x*2 ^ p.2.toNat+2 ^ p.2.toNat≤2 ^ (u+p.2.toNat):=by
   rw[Int.pow_add]
   have:(x+1)*2 ^ p.2.toNat≤2 ^ u*2 ^ p.2.toNat:=Int.mul_le_mul_of_nonneg_right (by omega) (by omega)
   rw[Int.add_mul,Int.one_mul] at this
   exact this
  have hx2:(2:Int) ^ (u+p.2.toNat)≤4294967296:=by
   have:=pow_le (u:=u+p.2.toNat) (v:=32) (by omega)
   simpa using this
  have e:bits .or .u32 (x*2 ^ p.2.toNat%4294967296) p.1=x*2 ^ p.2.toNat+p.1:=by
   rw[Int.emod_eq_of_lt hx0 (by omega)]
   exact z2w p.2.toNat (by omega) ⟨hx0,by omega⟩ p0 p1 (Int.mul_emod_left _ _)
  show z3v l (bits .or .u32 (x*2 ^ p.2.toNat%4294967296) p.1)=polyV l (x*2 ^ p.2.toNat+p.1)
  rw[e]
  exact z9a l _ (u+p.2.toNat) hf (by omega) (by omega) (by omega)
theorem bitsN {x:Int} (hx:U32 x) (l n:Nat) (hl:l<32) (hn:1≤n) (h:l+n≤32):z0j x l n=x/2 ^ l%2 ^ n:=z0t hx l n hl hn h
theorem wrap_i32x (n:Int):IntKind.i32.wrap n=wrap32 n:=by rw[IntKind.wrap_i32];unfold wrap32;omega
theorem ccutB (x lo n:Int) (hx:U32 x) (c1:0≤lo) (c2:lo<32) (c3:1≤n) (c4:n≤32-lo) (w:World) :
  Calls Tryz.prog 88 #[.int .u32 x,.int .i64 lo,.int .i64 n] w fun e w'=>e=.returned (.agg #[.int .u32 (z0j x lo n),.int .i64 n])∧Below w.heap.size w w':=
 (ccut x lo n hx c1 c2 c3 c4 w).mono fun _ _ h=>⟨h.1,by rw[h.2];exact (Below.refl _ _).alloc (Nat.le_refl _) _⟩
theorem z3g (x lo n:Int) (hx:U32 x) (c1:0≤lo) (c2:lo<32) (c3:1≤n) (c4:n≤5) (c5:n≤32-lo):0≤z0j x lo n∧z0j x lo n<32:=by
 obtain⟨l,rfl⟩:∃ l:Nat,lo=l:=⟨lo.toNat,by omega⟩
 obtain⟨k,rfl⟩:∃ k:Nat,n=k:=⟨n.toNat,by omega⟩
 rw[bitsN hx l k (by omega) (by omega) (by omega)]
 have h1:(0:Int)<2 ^ k:=Int.pow_pos (by omega)
 have h2:=pow_le (u:=k) (v:=5) (by omega)
 simp at h2
 exact⟨Int.emod_nonneg _ (by omega),by have:=Int.emod_lt_of_pos (x/2 ^ l) h1;omega⟩
def decM (la x:Int):Int:=
 if la=1 then wrap32 (z2g (z0j x 20 12) 12)
 else if la=2 then wrap32 (z0j x 20 5)
 else if la=3 then wrap32 (z2g (z3v [(z0j x 25 7,7),(z0j x 7 5,5)] 0) 12)
 else if la=4 then wrap32 (z2g (z3v [(z0j x 31 1,1),(z0j x 7 1,1),(z0j x 25 6,6),(z0j x 8 4,4),(z0j 0 0 1,1)] 0) 13)
 else if la=5 then wrap32 (z0j x 12 20)
 else if la=6 then wrap32 (z2g (z3v [(z0j x 31 1,1),(z0j x 12 8,8),(z0j x 20 1,1),(z0j x 21 10,10),(z0j 0 0 1,1)] 0) 21)
 else if la=7 then wrap32 (z0j x 20 12)
 else 0
theorem dec_0 (s:ByteArray) (la o f g x:Int) (hla:la=0) (hx:U32 x) (w:World) :
  Calls Tryz.prog 70 #[.agg #[.string s,.int .i64 la,.int .u32 o,.int .u32 f,.int .u32 g],.int .u32 x] w fun e w'=>e=.returned (.agg #[.string s,.int .i64 (z0j x 7 5),.int .i64 (z0j x 15 5),.int .i64 (z0j x 20 5),.int .i32 (decM 0 x)])∧Below w.heap.size w w':=by
 have hm:Tryz.prog.follows .mixedOrders=true:=by kernel_rfl
 have CD:Hid _:=z1m x 7 5 hx (by omega) (by omega) (by omega) (by omega)
 have CA:Hid _:=z1m x 15 5 hx (by omega) (by omega) (by omega) (by omega)
 have CB:Hid _:=z1m x 20 5 hx (by omega) (by omega) (by omega) (by omega)
 obtain⟨hd0,hd1⟩:=z3g x 7 5 hx (by omega) (by omega) (by omega) (by omega) (by omega)
 obtain⟨ha0,ha1⟩:=z3g x 15 5 hx (by omega) (by omega) (by omega) (by omega) (by omega)
 obtain⟨hb0,hb1⟩:=z3g x 20 5 hx (by omega) (by omega) (by omega) (by omega) (by omega)
 generalize z0j x 7 5=d5 at *
 generalize z0j x 15 5=a5 at *
 generalize z0j x 20 5=b5 at *
 clear hx
 subst hla
 go_enter Tryz.func70,Tryz.ntmps70
 go_wp2_with fail
 refine (CD.out _).mono ?_
 rintro e w' ⟨rfl,rfl⟩
 go_wp2_with fail
 refine (CA.out _).mono ?_
 rintro e w' ⟨rfl,rfl⟩
 go_wp2_with fail
 refine (CB.out _).mono ?_
 rintro e w' ⟨rfl,rfl⟩
 have k1:((w.alloc (.cells #[.string s,.int .i64 0,.int .u32 o,.int .u32 f,.int .u32 g] 118)).alloc (.cells #[.string ⟨#[]⟩,.int .i64 0,.int .i64 0,.int .i64 0,.int .i32 0] 24)).heap[w.heap.size]?=some (.cells #[.string s,.int .i64 0,.int .u32 o,.int .u32 f,.int .u32 g] 118):=by
  rw[Below.heap_alloc _ _ _ (by simp),z0g]
 have r1:((w.alloc (.cells #[.string s,.int .i64 0,.int .u32 o,.int .u32 f,.int .u32 g] 118)).alloc (.cells #[.string ⟨#[]⟩,.int .i64 0,.int .i64 0,.int .i64 0,.int .i32 0] 24)).heap[w.heap.size+1]?=some (.cells #[.string ⟨#[]⟩,.int .i64 0,.int .i64 0,.int .i64 0,.int .i32 0] 24):=by
  have:=z0g (w.alloc (.cells #[.string s,.int .i64 0,.int .u32 o,.int .u32 f,.int .u32 g] 118)) (.cells #[.string ⟨#[]⟩,.int .i64 0,.int .i64 0,.int .i64 0,.int .i32 0] 24)
  rwa [World.size_alloc] at this
 have HB:Hid (Below w.heap.size w ((w.alloc (.cells #[.string s,.int .i64 0,.int .u32 o,.int .u32 f,.int .u32 g] 118)).alloc (.cells #[.string ⟨#[]⟩,.int .i64 0,.int .i64 0,.int .i64 0,.int .i32 0] 24))):=box2
 have hrb:w.heap.size≤w.heap.size+1:=by omega
 generalize (w.alloc (.cells #[.string s,.int .i64 0,.int .u32 o,.int .u32 f,.int .u32 g] 118)).alloc (.cells #[.string ⟨#[]⟩,.int .i64 0,.int .i64 0,.int .i64 0,.int .i32 0] 24)=V at *
 generalize hrb':w.heap.size+1=rb at *
 obtain⟨kc,_,zk⟩:=z0a k1
 obtain⟨rc,rf,zr⟩:=z0a r1
 have kc0:=kc 0 (.string s) rfl
 have kc1:=kc 1 (.int .i64 0) rfl
 have rc0:=rc 0 (.string ⟨#[]⟩) rfl
 have rc1:=rc 1 (.int .i64 0) rfl
 have rc2:=rc 2 (.int .i64 0) rfl
 have rc3:=rc 3 (.int .i64 0) rfl
 have rc4:=rc 4 (.int .i32 0) rfl
 have rf0:=rf 0
 have rf1:=rf 1
 have rf2:=rf 2
 have rf3:=rf 3
 have rf4:=rf 4
 clear kc rc rf k1 r1 hrb'
 go_wp2
 obtain⟨Y,hY,y0,y1,y2,y3,y4,bY⟩:=z7y (v0:=.string s) (v1:=.int .i64 d5) (v2:=.int .i64 a5) (v3:=.int .i64 b5) (v4:=.int .i32 0) rc0 rc1 rc2 rc3 rc4 HB.out hrb
 rw[← hY]
 clear hY
 refine bodyPost_ret (v:=.agg #[.string s,.int .i64 d5,.int .i64 a5,.int .i64 b5,.int .i32 0]) ?_ rfl ?_
 ·simp[results,Tryz.results70,go_sem,y0,y1,y2,y3,y4]
 ·refine⟨?_,bY⟩
  rw[show decM 0 x=0 from rfl]
theorem dec_1 (s:ByteArray) (la o f g x:Int) (hla:la=1) (hx:U32 x) (w:World) :
  Calls Tryz.prog 70 #[.agg #[.string s,.int .i64 la,.int .u32 o,.int .u32 f,.int .u32 g],.int .u32 x] w fun e w'=>e=.returned (.agg #[.string s,.int .i64 (z0j x 7 5),.int .i64 (z0j x 15 5),.int .i64 0,.int .i32 (decM 1 x)])∧Below w.heap.size w w':=by
 have hm:Tryz.prog.follows .mixedOrders=true:=by kernel_rfl
 have CD:Hid _:=z1m x 7 5 hx (by omega) (by omega) (by omega) (by omega)
 have CA:Hid _:=z1m x 15 5 hx (by omega) (by omega) (by omega) (by omega)
 have CB:Hid _:=z1m x 20 5 hx (by omega) (by omega) (by omega) (by omega)
 obtain⟨hd0,hd1⟩:=z3g x 7 5 hx (by omega) (by omega) (by omega) (by omega) (by omega)
 obtain⟨ha0,ha1⟩:=z3g x 15 5 hx (by omega) (by omega) (by omega) (by omega) (by omega)
 obtain⟨hb0,hb1⟩:=z3g x 20 5 hx (by omega) (by omega) (by omega) (by omega) (by omega)
 have C37:Hid _:=z1m x 20 12 hx (by omega) (by omega) (by omega) (by omega)
 have U37:=z4n x 20 12
 have CS:Hid _:=csigned (z0j x 20 12) 12 U37
 have HM:Hid (decM 1 x=wrap32 (z2g (z0j x 20 12) 12)):=by simp[decM,Hid]
 generalize wrap32 (z2g (z0j x 20 12) 12)=mv at *
 generalize z0j x 20 12=y37 at *
 clear U37
 generalize z0j x 7 5=d5 at *
 generalize z0j x 15 5=a5 at *
 generalize z0j x 20 5=b5 at *
 clear hx
 subst hla
 go_enter Tryz.func70,Tryz.ntmps70
 go_wp2_with fail
 refine (CD.out _).mono ?_
 rintro e w' ⟨rfl,rfl⟩
 go_wp2_with fail
 refine (CA.out _).mono ?_
 rintro e w' ⟨rfl,rfl⟩
 go_wp2_with fail
 refine (CB.out _).mono ?_
 rintro e w' ⟨rfl,rfl⟩
 have k1:((w.alloc (.cells #[.string s,.int .i64 1,.int .u32 o,.int .u32 f,.int .u32 g] 118)).alloc (.cells #[.string ⟨#[]⟩,.int .i64 0,.int .i64 0,.int .i64 0,.int .i32 0] 24)).heap[w.heap.size]?=some (.cells #[.string s,.int .i64 1,.int .u32 o,.int .u32 f,.int .u32 g] 118):=by
  rw[Below.heap_alloc _ _ _ (by simp),z0g]
 have r1:((w.alloc (.cells #[.string s,.int .i64 1,.int .u32 o,.int .u32 f,.int .u32 g] 118)).alloc (.cells #[.string ⟨#[]⟩,.int .i64 0,.int .i64 0,.int .i64 0,.int .i32 0] 24)).heap[w.heap.size+1]?=some (.cells #[.string ⟨#[]⟩,.int .i64 0,.int .i64 0,.int .i64 0,.int .i32 0] 24):=by
  have:=z0g (w.alloc (.cells #[.string s,.int .i64 1,.int .u32 o,.int .u32 f,.int .u32 g] 118)) (.cells #[.string ⟨#[]⟩,.int .i64 0,.int .i64 0,.int .i64 0,.int .i32 0] 24)
  rwa [World.size_alloc] at this
 have HB:Hid (Below w.heap.size w ((w.alloc (.cells #[.string s,.int .i64 1,.int .u32 o,.int .u32 f,.int .u32 g] 118)).alloc (.cells #[.string ⟨#[]⟩,.int .i64 0,.int .i64 0,.int .i64 0,.int .i32 0] 24))):=box2
 have hrb:w.heap.size≤w.heap.size+1:=by omega
 generalize (w.alloc (.cells #[.string s,.int .i64 1,.int .u32 o,.int .u32 f,.int .u32 g] 118)).alloc (.cells #[.string ⟨#[]⟩,.int .i64 0,.int .i64 0,.int .i64 0,.int .i32 0] 24)=V at *
 generalize hrb':w.heap.size+1=rb at *
 obtain⟨kc,_,zk⟩:=z0a k1
 obtain⟨rc,rf,zr⟩:=z0a r1
 have kc0:=kc 0 (.string s) rfl
 have kc1:=kc 1 (.int .i64 1) rfl
 have rc0:=rc 0 (.string ⟨#[]⟩) rfl
 have rc1:=rc 1 (.int .i64 0) rfl
 have rc2:=rc 2 (.int .i64 0) rfl
 have rc3:=rc 3 (.int .i64 0) rfl
 have rc4:=rc 4 (.int .i32 0) rfl
 have rf0:=rf 0
 have rf1:=rf 1
 have rf2:=rf 2
 have rf3:=rf 3
 have rf4:=rf 4
 clear kc rc rf k1 r1 hrb'
 go_wp2_with fail
 refine z1b 8 [] [.pointer (some ⟨w.heap.size,0,none⟩),.string s,.int .i64 d5,.int .i64 a5,.int .u32 x,.int .u32 y37,.int .i32 mv,.agg #[.string s,.int .i64 d5,.int .i64 a5,.int .i64 0,.int .i32 mv]] hm (by kernel_rfl) (by kernel_rfl) (by intro r hr;cases hr) ?_ (by intro r hr;cases hr) (by intro r hr;cases hr) ?_
 ·generalize hl:lay _ _ _=af
  have e2:af.tmps[2]?.getD undef=.pointer (some ⟨w.heap.size,0,none⟩):=by rw[← hl];kernel_rfl
  have e32:af.tmps[32]?.getD undef=.pointer (some ⟨w.heap.size,0,none⟩):=by rw[← hl];kernel_rfl
  have e5:af.tmps[5]?.getD undef=.int .i64 d5:=by rw[← hl];kernel_rfl
  have e6:af.tmps[6]?.getD undef=.int .i64 a5:=by rw[← hl];kernel_rfl
  have e1:af.tmps[1]?.getD undef=.int .u32 x:=by rw[← hl];kernel_rfl
  have e36:af.tmps[36]?.getD undef=.int .u32 x:=by rw[← hl];kernel_rfl
  have e37:af.tmps[37]?.getD undef=.int .u32 y37:=by rw[← hl];kernel_rfl
  have e33:af.tmps[33]?.getD undef=.string s:=by rw[← hl];kernel_rfl
  have e34:af.tmps[34]?.getD undef=.int .i64 d5:=by rw[← hl];kernel_rfl
  have e35:af.tmps[35]?.getD undef=.int .i64 a5:=by rw[← hl];kernel_rfl
  have e38:af.tmps[38]?.getD undef=.int .i32 mv:=by rw[← hl];kernel_rfl
  clear hl
  refine And.intro (fun w' hw=>?_) ?_
  ·exact z0d (by simp[execOp,go_sem,e2])
  refine And.intro (fun w' hw=>?_) ?_
  ·have c0:=hw.cell (p:=⟨w.heap.size,0,none⟩) zk
   rw[kc0] at c0
   exact z0d (by simp[execOp,go_sem,e32,c0])
  refine And.intro (fun w' hw=>?_) ?_
  ·exact z0d (by simp[execOp,go_sem,e5])
  refine And.intro (fun w' hw=>?_) ?_
  ·exact z0d (by simp[execOp,go_sem,e6])
  refine And.intro (fun w' hw=>?_) ?_
  ·exact z0d (by simp[execOp,go_sem,e1])
  refine And.intro (fun w' hw=>?_) ?_
  ·exact z1k 50 #[.int .u32 x,.int .i64 20,.int .i64 12] (by simp[go_sem,e36]) ((C37.out _).mono (by rintro e w'' ⟨rfl,rfl⟩;exact⟨rfl,Below.refl _ _⟩))
  refine And.intro (fun w' hw=>?_) ?_
  ·exact z1k 86 #[.int .u32 y37,.int .i64 12] (by simp[go_sem,e37]) ((CS.out _).mono (by rintro e w'' ⟨rfl,rfl⟩;exact⟨rfl,Below.refl _ _⟩))
  refine And.intro (fun w' hw=>?_) ?_
  ·exact z0d (by simp[execOp,go_sem,e33,e34,e35,e38])
  exact True.intro
 ·intro β3 W3 hW3 _ _
  simp[z3o,lay,Act.put]
  rw[← hW3.cell (p:=⟨rb,0,none⟩) zr] at rc0
  rw[← hW3.frozen (p:=⟨rb,0,none⟩) zr] at rf0
  rw[← hW3.cell (p:=⟨rb,1,none⟩) zr] at rc1
  rw[← hW3.frozen (p:=⟨rb,1,none⟩) zr] at rf1
  rw[← hW3.cell (p:=⟨rb,2,none⟩) zr] at rc2
  rw[← hW3.frozen (p:=⟨rb,2,none⟩) zr] at rf2
  rw[← hW3.cell (p:=⟨rb,3,none⟩) zr] at rc3
  rw[← hW3.frozen (p:=⟨rb,3,none⟩) zr] at rf3
  rw[← hW3.cell (p:=⟨rb,4,none⟩) zr] at rc4
  rw[← hW3.frozen (p:=⟨rb,4,none⟩) zr] at rf4
  have HB3:Hid (Below w.heap.size w W3):=z0e HB.out hW3
  clear hW3
  go_wp2
  obtain⟨Y,hY,y0,y1,y2,y3,y4,bY⟩:=z7y (v0:=.string s) (v1:=.int .i64 d5) (v2:=.int .i64 a5) (v3:=.int .i64 0) (v4:=.int .i32 mv) rc0 rc1 rc2 rc3 rc4 HB3.out hrb
  rw[← hY]
  clear hY
  refine bodyPost_ret (v:=.agg #[.string s,.int .i64 d5,.int .i64 a5,.int .i64 0,.int .i32 mv]) ?_ rfl ?_
  ·simp[results,Tryz.results70,go_sem,y0,y1,y2,y3,y4]
  ·refine⟨?_,bY⟩
   rw[show decM 1 x=mv from HM.out]
theorem dec_2 (s:ByteArray) (la o f g x:Int) (hla:la=2) (hx:U32 x) (w:World) :
  Calls Tryz.prog 70 #[.agg #[.string s,.int .i64 la,.int .u32 o,.int .u32 f,.int .u32 g],.int .u32 x] w fun e w'=>e=.returned (.agg #[.string s,.int .i64 (z0j x 7 5),.int .i64 (z0j x 15 5),.int .i64 0,.int .i32 (decM 2 x)])∧Below w.heap.size w w':=by
 have hm:Tryz.prog.follows .mixedOrders=true:=by kernel_rfl
 have CD:Hid _:=z1m x 7 5 hx (by omega) (by omega) (by omega) (by omega)
 have CA:Hid _:=z1m x 15 5 hx (by omega) (by omega) (by omega) (by omega)
 have CB:Hid _:=z1m x 20 5 hx (by omega) (by omega) (by omega) (by omega)
 obtain⟨hd0,hd1⟩:=z3g x 7 5 hx (by omega) (by omega) (by omega) (by omega) (by omega)
 obtain⟨ha0,ha1⟩:=z3g x 15 5 hx (by omega) (by omega) (by omega) (by omega) (by omega)
 obtain⟨hb0,hb1⟩:=z3g x 20 5 hx (by omega) (by omega) (by omega) (by omega) (by omega)
 have C47:Hid _:=z1m x 20 5 hx (by omega) (by omega) (by omega) (by omega)
 have U47:=z4n x 20 5
 have HM:Hid (decM 2 x=wrap32 (z0j x 20 5)):=by simp[decM,Hid]
 have hcv:IntKind.i32.wrap (z0j x 20 5)=wrap32 (z0j x 20 5):=wrap_i32x _
 generalize wrap32 (z0j x 20 5)=mv at *
 clear U47
 generalize z0j x 7 5=d5 at *
 generalize z0j x 15 5=a5 at *
 generalize z0j x 20 5=b5 at *
 clear hx
 subst hla
 go_enter Tryz.func70,Tryz.ntmps70
 go_wp2_with fail
 refine (CD.out _).mono ?_
 rintro e w' ⟨rfl,rfl⟩
 go_wp2_with fail
 refine (CA.out _).mono ?_
 rintro e w' ⟨rfl,rfl⟩
 go_wp2_with fail
 refine (CB.out _).mono ?_
 rintro e w' ⟨rfl,rfl⟩
 have k1:((w.alloc (.cells #[.string s,.int .i64 2,.int .u32 o,.int .u32 f,.int .u32 g] 118)).alloc (.cells #[.string ⟨#[]⟩,.int .i64 0,.int .i64 0,.int .i64 0,.int .i32 0] 24)).heap[w.heap.size]?=some (.cells #[.string s,.int .i64 2,.int .u32 o,.int .u32 f,.int .u32 g] 118):=by
  rw[Below.heap_alloc _ _ _ (by simp),z0g]
 have r1:((w.alloc (.cells #[.string s,.int .i64 2,.int .u32 o,.int .u32 f,.int .u32 g] 118)).alloc (.cells #[.string ⟨#[]⟩,.int .i64 0,.int .i64 0,.int .i64 0,.int .i32 0] 24)).heap[w.heap.size+1]?=some (.cells #[.string ⟨#[]⟩,.int .i64 0,.int .i64 0,.int .i64 0,.int .i32 0] 24):=by
  have:=z0g (w.alloc (.cells #[.string s,.int .i64 2,.int .u32 o,.int .u32 f,.int .u32 g] 118)) (.cells #[.string ⟨#[]⟩,.int .i64 0,.int .i64 0,.int .i64 0,.int .i32 0] 24)
  rwa [World.size_alloc] at this
 have HB:Hid (Below w.heap.size w ((w.alloc (.cells #[.string s,.int .i64 2,.int .u32 o,.int .u32 f,.int .u32 g] 118)).alloc (.cells #[.string ⟨#[]⟩,.int .i64 0,.int .i64 0,.int .i64 0,.int .i32 0] 24))):=box2
 have hrb:w.heap.size≤w.heap.size+1:=by omega
 generalize (w.alloc (.cells #[.string s,.int .i64 2,.int .u32 o,.int .u32 f,.int .u32 g] 118)).alloc (.cells #[.string ⟨#[]⟩,.int .i64 0,.int .i64 0,.int .i64 0,.int .i32 0] 24)=V at *
 generalize hrb':w.heap.size+1=rb at *
 obtain⟨kc,_,zk⟩:=z0a k1
 obtain⟨rc,rf,zr⟩:=z0a r1
 have kc0:=kc 0 (.string s) rfl
 have kc1:=kc 1 (.int .i64 2) rfl
 have rc0:=rc 0 (.string ⟨#[]⟩) rfl
 have rc1:=rc 1 (.int .i64 0) rfl
 have rc2:=rc 2 (.int .i64 0) rfl
 have rc3:=rc 3 (.int .i64 0) rfl
 have rc4:=rc 4 (.int .i32 0) rfl
 have rf0:=rf 0
 have rf1:=rf 1
 have rf2:=rf 2
 have rf3:=rf 3
 have rf4:=rf 4
 clear kc rc rf k1 r1 hrb'
 go_wp2_with fail
 refine z1b 8 [] [.pointer (some ⟨w.heap.size,0,none⟩),.string s,.int .i64 d5,.int .i64 a5,.int .u32 x,.int .u32 b5,.int .i32 mv,.agg #[.string s,.int .i64 d5,.int .i64 a5,.int .i64 0,.int .i32 mv]] hm (by kernel_rfl) (by kernel_rfl) (by intro r hr;cases hr) ?_ (by intro r hr;cases hr) (by intro r hr;cases hr) ?_
 ·generalize hl:lay _ _ _=af
  have e2:af.tmps[2]?.getD undef=.pointer (some ⟨w.heap.size,0,none⟩):=by rw[← hl];kernel_rfl
  have e42:af.tmps[42]?.getD undef=.pointer (some ⟨w.heap.size,0,none⟩):=by rw[← hl];kernel_rfl
  have e5:af.tmps[5]?.getD undef=.int .i64 d5:=by rw[← hl];kernel_rfl
  have e6:af.tmps[6]?.getD undef=.int .i64 a5:=by rw[← hl];kernel_rfl
  have e1:af.tmps[1]?.getD undef=.int .u32 x:=by rw[← hl];kernel_rfl
  have e46:af.tmps[46]?.getD undef=.int .u32 x:=by rw[← hl];kernel_rfl
  have e47:af.tmps[47]?.getD undef=.int .u32 b5:=by rw[← hl];kernel_rfl
  have e43:af.tmps[43]?.getD undef=.string s:=by rw[← hl];kernel_rfl
  have e44:af.tmps[44]?.getD undef=.int .i64 d5:=by rw[← hl];kernel_rfl
  have e45:af.tmps[45]?.getD undef=.int .i64 a5:=by rw[← hl];kernel_rfl
  have e48:af.tmps[48]?.getD undef=.int .i32 mv:=by rw[← hl];kernel_rfl
  clear hl
  refine And.intro (fun w' hw=>?_) ?_
  ·exact z0d (by simp[execOp,go_sem,e2])
  refine And.intro (fun w' hw=>?_) ?_
  ·have c0:=hw.cell (p:=⟨w.heap.size,0,none⟩) zk
   rw[kc0] at c0
   exact z0d (by simp[execOp,go_sem,e42,c0])
  refine And.intro (fun w' hw=>?_) ?_
  ·exact z0d (by simp[execOp,go_sem,e5])
  refine And.intro (fun w' hw=>?_) ?_
  ·exact z0d (by simp[execOp,go_sem,e6])
  refine And.intro (fun w' hw=>?_) ?_
  ·exact z0d (by simp[execOp,go_sem,e1])
  refine And.intro (fun w' hw=>?_) ?_
  ·exact z1k 50 #[.int .u32 x,.int .i64 20,.int .i64 5] (by simp[go_sem,e46]) ((C47.out _).mono (by rintro e w'' ⟨rfl,rfl⟩;exact⟨rfl,Below.refl _ _⟩))
  refine And.intro (fun w' hw=>?_) ?_
  ·exact z0d (by simp[execOp,go_sem,e47,hcv])
  refine And.intro (fun w' hw=>?_) ?_
  ·exact z0d (by simp[execOp,go_sem,e43,e44,e45,e48])
  exact True.intro
 ·intro β3 W3 hW3 _ _
  simp[z3o,lay,Act.put]
  rw[← hW3.cell (p:=⟨rb,0,none⟩) zr] at rc0
  rw[← hW3.frozen (p:=⟨rb,0,none⟩) zr] at rf0
  rw[← hW3.cell (p:=⟨rb,1,none⟩) zr] at rc1
  rw[← hW3.frozen (p:=⟨rb,1,none⟩) zr] at rf1
  rw[← hW3.cell (p:=⟨rb,2,none⟩) zr] at rc2
  rw[← hW3.frozen (p:=⟨rb,2,none⟩) zr] at rf2
  rw[← hW3.cell (p:=⟨rb,3,none⟩) zr] at rc3
  rw[← hW3.frozen (p:=⟨rb,3,none⟩) zr] at rf3
  rw[← hW3.cell (p:=⟨rb,4,none⟩) zr] at rc4
  rw[← hW3.frozen (p:=⟨rb,4,none⟩) zr] at rf4
  have HB3:Hid (Below w.heap.size w W3):=z0e HB.out hW3
  clear hW3
  go_wp2
  obtain⟨Y,hY,y0,y1,y2,y3,y4,bY⟩:=z7y (v0:=.string s) (v1:=.int .i64 d5) (v2:=.int .i64 a5) (v3:=.int .i64 0) (v4:=.int .i32 mv) rc0 rc1 rc2 rc3 rc4 HB3.out hrb
  rw[← hY]
  clear hY
  refine bodyPost_ret (v:=.agg #[.string s,.int .i64 d5,.int .i64 a5,.int .i64 0,.int .i32 mv]) ?_ rfl ?_
  ·simp[results,Tryz.results70,go_sem,y0,y1,y2,y3,y4]
  ·refine⟨?_,bY⟩
   rw[show decM 2 x=mv from HM.out]
theorem dec_3 (s:ByteArray) (la o f g x:Int) (hla:la=3) (hx:U32 x) (w:World) :
  Calls Tryz.prog 70 #[.agg #[.string s,.int .i64 la,.int .u32 o,.int .u32 f,.int .u32 g],.int .u32 x] w fun e w'=>e=.returned (.agg #[.string s,.int .i64 0,.int .i64 (z0j x 15 5),.int .i64 (z0j x 20 5),.int .i32 (decM 3 x)])∧Below w.heap.size w w':=by
 have hm:Tryz.prog.follows .mixedOrders=true:=by kernel_rfl
 have CD:Hid _:=z1m x 7 5 hx (by omega) (by omega) (by omega) (by omega)
 have CA:Hid _:=z1m x 15 5 hx (by omega) (by omega) (by omega) (by omega)
 have CB:Hid _:=z1m x 20 5 hx (by omega) (by omega) (by omega) (by omega)
 obtain⟨hd0,hd1⟩:=z3g x 7 5 hx (by omega) (by omega) (by omega) (by omega) (by omega)
 obtain⟨ha0,ha1⟩:=z3g x 15 5 hx (by omega) (by omega) (by omega) (by omega) (by omega)
 obtain⟨hb0,hb1⟩:=z3g x 20 5 hx (by omega) (by omega) (by omega) (by omega) (by omega)
 have C53:Hid _:=ccutB x 25 7 hx (by omega) (by omega) (by omega) (by omega)
 have C55:Hid _:=ccutB x 7 5 hx (by omega) (by omega) (by omega) (by omega)
 have CJ:Hid _:=cjoin_new [(z0j x 25 7,7),(z0j x 7 5,5)] 2 rfl (by omega) (by simp)
 have UJ:U32 (z3v [(z0j x 25 7,7),(z0j x 7 5,5)] 0):=joinV_u32 _ _ ⟨by omega,by omega⟩
 have CS:Hid _:=csigned (z3v [(z0j x 25 7,7),(z0j x 7 5,5)] 0) 12 UJ
 clear UJ
 have HM:Hid (decM 3 x=wrap32 (z2g (z3v [(z0j x 25 7,7),(z0j x 7 5,5)] 0) 12)):=by simp[decM,Hid]
 generalize wrap32 (z2g (z3v [(z0j x 25 7,7),(z0j x 7 5,5)] 0) 12)=mv at *
 generalize hJ:z3v [(z0j x 25 7,7),(z0j x 7 5,5)] 0=jv at *
 generalize z0j x 25 7=y53 at *
 generalize z0j x 7 5=y55 at *
 clear hJ
 generalize z0j x 7 5=d5 at *
 generalize z0j x 15 5=a5 at *
 generalize z0j x 20 5=b5 at *
 clear hx
 subst hla
 go_enter Tryz.func70,Tryz.ntmps70
 go_wp2_with fail
 refine (CD.out _).mono ?_
 rintro e w' ⟨rfl,rfl⟩
 go_wp2_with fail
 refine (CA.out _).mono ?_
 rintro e w' ⟨rfl,rfl⟩
 go_wp2_with fail
 refine (CB.out _).mono ?_
 rintro e w' ⟨rfl,rfl⟩
 have k1:((w.alloc (.cells #[.string s,.int .i64 3,.int .u32 o,.int .u32 f,.int .u32 g] 118)).alloc (.cells #[.string ⟨#[]⟩,.int .i64 0,.int .i64 0,.int .i64 0,.int .i32 0] 24)).heap[w.heap.size]?=some (.cells #[.string s,.int .i64 3,.int .u32 o,.int .u32 f,.int .u32 g] 118):=by
  rw[Below.heap_alloc _ _ _ (by simp),z0g]
 have r1:((w.alloc (.cells #[.string s,.int .i64 3,.int .u32 o,.int .u32 f,.int .u32 g] 118)).alloc (.cells #[.string ⟨#[]⟩,.int .i64 0,.int .i64 0,.int .i64 0,.int .i32 0] 24)).heap[w.heap.size+1]?=some (.cells #[.string ⟨#[]⟩,.int .i64 0,.int .i64 0,.int .i64 0,.int .i32 0] 24):=by
  have:=z0g (w.alloc (.cells #[.string s,.int .i64 3,.int .u32 o,.int .u32 f,.int .u32 g] 118)) (.cells #[.string ⟨#[]⟩,.int .i64 0,.int .i64 0,.int .i64 0,.int .i32 0] 24)
  rwa [World.size_alloc] at this
 have HB:Hid (Below w.heap.size w ((w.alloc (.cells #[.string s,.int .i64 3,.int .u32 o,.int .u32 f,.int .u32 g] 118)).alloc (.cells #[.string ⟨#[]⟩,.int .i64 0,.int .i64 0,.int .i64 0,.int .i32 0] 24))):=box2
 have hrb:w.heap.size≤w.heap.size+1:=by omega
 generalize (w.alloc (.cells #[.string s,.int .i64 3,.int .u32 o,.int .u32 f,.int .u32 g] 118)).alloc (.cells #[.string ⟨#[]⟩,.int .i64 0,.int .i64 0,.int .i64 0,.int .i32 0] 24)=V at *
 generalize hrb':w.heap.size+1=rb at *
 obtain⟨kc,_,zk⟩:=z0a k1
 obtain⟨rc,rf,zr⟩:=z0a r1
 have kc0:=kc 0 (.string s) rfl
 have kc1:=kc 1 (.int .i64 3) rfl
 have rc0:=rc 0 (.string ⟨#[]⟩) rfl
 have rc1:=rc 1 (.int .i64 0) rfl
 have rc2:=rc 2 (.int .i64 0) rfl
 have rc3:=rc 3 (.int .i64 0) rfl
 have rc4:=rc 4 (.int .i32 0) rfl
 have rf0:=rf 0
 have rf1:=rf 1
 have rf2:=rf 2
 have rf3:=rf 3
 have rf4:=rf 4
 clear kc rc rf k1 r1 hrb'
 go_wp2_with fail
 refine (C53.out _).mono ?_
 rintro e w53 ⟨rfl,hb53⟩
 have H53:Hid (Below V.heap.size V w53):=z0e (Below.refl V.heap.size V) hb53
 clear hb53
 go_wp2_with fail
 refine (C55.out _).mono ?_
 rintro e w55 ⟨rfl,hb55⟩
 have H55:Hid (Below V.heap.size V w55):=z0e H53.out hb55
 clear hb55
 go_wp2_with fail
 refine (CJ.out _).mono ?_
 rintro e W ⟨rfl,hbW⟩
 have HW:Hid (Below V.heap.size V W):=z0e H55.out hbW
 have HBW:Hid (Below w.heap.size w W):=z0e HB.out HW.out
 rw[← HW.out.cell (p:=⟨rb,0,none⟩) zr] at rc0
 rw[← HW.out.frozen (p:=⟨rb,0,none⟩) zr] at rf0
 rw[← HW.out.cell (p:=⟨rb,1,none⟩) zr] at rc1
 rw[← HW.out.frozen (p:=⟨rb,1,none⟩) zr] at rf1
 rw[← HW.out.cell (p:=⟨rb,2,none⟩) zr] at rc2
 rw[← HW.out.frozen (p:=⟨rb,2,none⟩) zr] at rf2
 rw[← HW.out.cell (p:=⟨rb,3,none⟩) zr] at rc3
 rw[← HW.out.frozen (p:=⟨rb,3,none⟩) zr] at rf3
 rw[← HW.out.cell (p:=⟨rb,4,none⟩) zr] at rc4
 rw[← HW.out.frozen (p:=⟨rb,4,none⟩) zr] at rf4
 rw[← HW.out.cell (p:=⟨w.heap.size,0,none⟩) zk] at kc0
 have zr':=Nat.lt_of_lt_of_le zr HW.out.size
 have zk':=Nat.lt_of_lt_of_le zk HW.out.size
 clear zr zk hbW
 go_wp2_with fail
 refine z1b 7 [] [.pointer (some ⟨w.heap.size,0,none⟩),.string s,.int .i64 a5,.int .i64 b5,.int .u32 jv,.int .i32 mv,.agg #[.string s,.int .i64 0,.int .i64 a5,.int .i64 b5,.int .i32 mv]] hm (by kernel_rfl) (by kernel_rfl) (by intro r hr;cases hr) ?_ (by intro r hr;cases hr) (by intro r hr;cases hr) ?_
 ·generalize hl:lay _ _ _=af
  have e2:af.tmps[2]?.getD undef=.pointer (some ⟨w.heap.size,0,none⟩):=by rw[← hl];kernel_rfl
  have e58:af.tmps[58]?.getD undef=.pointer (some ⟨w.heap.size,0,none⟩):=by rw[← hl];kernel_rfl
  have e6:af.tmps[6]?.getD undef=.int .i64 a5:=by rw[← hl];kernel_rfl
  have e7:af.tmps[7]?.getD undef=.int .i64 b5:=by rw[← hl];kernel_rfl
  have e8:af.tmps[8]?.getD undef=.int .u32 jv:=by rw[← hl];kernel_rfl
  have e62:af.tmps[62]?.getD undef=.int .u32 jv:=by rw[← hl];kernel_rfl
  have e59:af.tmps[59]?.getD undef=.string s:=by rw[← hl];kernel_rfl
  have e60:af.tmps[60]?.getD undef=.int .i64 a5:=by rw[← hl];kernel_rfl
  have e61:af.tmps[61]?.getD undef=.int .i64 b5:=by rw[← hl];kernel_rfl
  have e63:af.tmps[63]?.getD undef=.int .i32 mv:=by rw[← hl];kernel_rfl
  clear hl
  refine And.intro (fun w' hw=>?_) ?_
  ·exact z0d (by simp[execOp,go_sem,e2])
  refine And.intro (fun w' hw=>?_) ?_
  ·have c0:=hw.cell (p:=⟨w.heap.size,0,none⟩) zk'
   rw[kc0] at c0
   exact z0d (by simp[execOp,go_sem,e58,c0])
  refine And.intro (fun w' hw=>?_) ?_
  ·exact z0d (by simp[execOp,go_sem,e6])
  refine And.intro (fun w' hw=>?_) ?_
  ·exact z0d (by simp[execOp,go_sem,e7])
  refine And.intro (fun w' hw=>?_) ?_
  ·exact z0d (by simp[execOp,go_sem,e8])
  refine And.intro (fun w' hw=>?_) ?_
  ·exact z1k 86 #[.int .u32 jv,.int .i64 12] (by simp[go_sem,e62]) ((CS.out _).mono (by rintro e w'' ⟨rfl,rfl⟩;exact⟨rfl,Below.refl _ _⟩))
  refine And.intro (fun w' hw=>?_) ?_
  ·exact z0d (by simp[execOp,go_sem,e59,e60,e61,e63])
  exact True.intro
 ·intro β3 W3 hW3 _ _
  simp[z3o,lay,Act.put]
  rw[← hW3.cell (p:=⟨rb,0,none⟩) zr'] at rc0
  rw[← hW3.frozen (p:=⟨rb,0,none⟩) zr'] at rf0
  rw[← hW3.cell (p:=⟨rb,1,none⟩) zr'] at rc1
  rw[← hW3.frozen (p:=⟨rb,1,none⟩) zr'] at rf1
  rw[← hW3.cell (p:=⟨rb,2,none⟩) zr'] at rc2
  rw[← hW3.frozen (p:=⟨rb,2,none⟩) zr'] at rf2
  rw[← hW3.cell (p:=⟨rb,3,none⟩) zr'] at rc3
  rw[← hW3.frozen (p:=⟨rb,3,none⟩) zr'] at rf3
  rw[← hW3.cell (p:=⟨rb,4,none⟩) zr'] at rc4
  rw[← hW3.frozen (p:=⟨rb,4,none⟩) zr'] at rf4
  have HB3:Hid (Below w.heap.size w W3):=z0e HBW.out hW3
  clear hW3
  go_wp2
  obtain⟨Y,hY,y0,y1,y2,y3,y4,bY⟩:=z7y (v0:=.string s) (v1:=.int .i64 0) (v2:=.int .i64 a5) (v3:=.int .i64 b5) (v4:=.int .i32 mv) rc0 rc1 rc2 rc3 rc4 HB3.out hrb
  rw[← hY]
  clear hY
  refine bodyPost_ret (v:=.agg #[.string s,.int .i64 0,.int .i64 a5,.int .i64 b5,.int .i32 mv]) ?_ rfl ?_
  ·simp[results,Tryz.results70,go_sem,y0,y1,y2,y3,y4]
  ·refine⟨?_,bY⟩
   rw[show decM 3 x=mv from HM.out]
theorem dec_4 (s:ByteArray) (la o f g x:Int) (hla:la=4) (hx:U32 x) (w:World) :
  Calls Tryz.prog 70 #[.agg #[.string s,.int .i64 la,.int .u32 o,.int .u32 f,.int .u32 g],.int .u32 x] w fun e w'=>e=.returned (.agg #[.string s,.int .i64 0,.int .i64 (z0j x 15 5),.int .i64 (z0j x 20 5),.int .i32 (decM 4 x)])∧Below w.heap.size w w':=by
 have hm:Tryz.prog.follows .mixedOrders=true:=by kernel_rfl
 have CD:Hid _:=z1m x 7 5 hx (by omega) (by omega) (by omega) (by omega)
 have CA:Hid _:=z1m x 15 5 hx (by omega) (by omega) (by omega) (by omega)
 have CB:Hid _:=z1m x 20 5 hx (by omega) (by omega) (by omega) (by omega)
 obtain⟨hd0,hd1⟩:=z3g x 7 5 hx (by omega) (by omega) (by omega) (by omega) (by omega)
 obtain⟨ha0,ha1⟩:=z3g x 15 5 hx (by omega) (by omega) (by omega) (by omega) (by omega)
 obtain⟨hb0,hb1⟩:=z3g x 20 5 hx (by omega) (by omega) (by omega) (by omega) (by omega)
 have C68:Hid _:=ccutB x 31 1 hx (by omega) (by omega) (by omega) (by omega)
 have C70:Hid _:=ccutB x 7 1 hx (by omega) (by omega) (by omega) (by omega)
 have C72:Hid _:=ccutB x 25 6 hx (by omega) (by omega) (by omega) (by omega)
 have C74:Hid _:=ccutB x 8 4 hx (by omega) (by omega) (by omega) (by omega)
 have C75:Hid _:=ccutB 0 0 1 ⟨by omega,by omega⟩ (by omega) (by omega) (by omega) (by omega)
 have CJ:Hid _:=cjoin_new [(z0j x 31 1,1),(z0j x 7 1,1),(z0j x 25 6,6),(z0j x 8 4,4),(z0j 0 0 1,1)] 5 rfl (by omega) (by simp)
 have UJ:U32 (z3v [(z0j x 31 1,1),(z0j x 7 1,1),(z0j x 25 6,6),(z0j x 8 4,4),(z0j 0 0 1,1)] 0):=joinV_u32 _ _ ⟨by omega,by omega⟩
 have CS:Hid _:=csigned (z3v [(z0j x 31 1,1),(z0j x 7 1,1),(z0j x 25 6,6),(z0j x 8 4,4),(z0j 0 0 1,1)] 0) 13 UJ
 clear UJ
 have HM:Hid (decM 4 x=wrap32 (z2g (z3v [(z0j x 31 1,1),(z0j x 7 1,1),(z0j x 25 6,6),(z0j x 8 4,4),(z0j 0 0 1,1)] 0) 13)):=by simp[decM,Hid]
 generalize wrap32 (z2g (z3v [(z0j x 31 1,1),(z0j x 7 1,1),(z0j x 25 6,6),(z0j x 8 4,4),(z0j 0 0 1,1)] 0) 13)=mv at *
 generalize hJ:z3v [(z0j x 31 1,1),(z0j x 7 1,1),(z0j x 25 6,6),(z0j x 8 4,4),(z0j 0 0 1,1)] 0=jv at *
 generalize z0j x 31 1=y68 at *
 generalize z0j x 7 1=y70 at *
 generalize z0j x 25 6=y72 at *
 generalize z0j x 8 4=y74 at *
 generalize z0j 0 0 1=y75 at *
 clear hJ
 generalize z0j x 7 5=d5 at *
 generalize z0j x 15 5=a5 at *
 generalize z0j x 20 5=b5 at *
 clear hx
 subst hla
 go_enter Tryz.func70,Tryz.ntmps70
 go_wp2_with fail
 refine (CD.out _).mono ?_
 rintro e w' ⟨rfl,rfl⟩
 go_wp2_with fail
 refine (CA.out _).mono ?_
 rintro e w' ⟨rfl,rfl⟩
 go_wp2_with fail
 refine (CB.out _).mono ?_
 rintro e w' ⟨rfl,rfl⟩
 have k1:((w.alloc (.cells #[.string s,.int .i64 4,.int .u32 o,.int .u32 f,.int .u32 g] 118)).alloc (.cells #[.string ⟨#[]⟩,.int .i64 0,.int .i64 0,.int .i64 0,.int .i32 0] 24)).heap[w.heap.size]?=some (.cells #[.string s,.int .i64 4,.int .u32 o,.int .u32 f,.int .u32 g] 118):=by
  rw[Below.heap_alloc _ _ _ (by simp),z0g]
 have r1:((w.alloc (.cells #[.string s,.int .i64 4,.int .u32 o,.int .u32 f,.int .u32 g] 118)).alloc (.cells #[.string ⟨#[]⟩,.int .i64 0,.int .i64 0,.int .i64 0,.int .i32 0] 24)).heap[w.heap.size+1]?=some (.cells #[.string ⟨#[]⟩,.int .i64 0,.int .i64 0,.int .i64 0,.int .i32 0] 24):=by
  have:=z0g (w.alloc (.cells #[.string s,.int .i64 4,.int .u32 o,.int .u32 f,.int .u32 g] 118)) (.cells #[.string ⟨#[]⟩,.int .i64 0,.int .i64 0,.int .i64 0,.int .i32 0] 24)
  rwa [World.size_alloc] at this
 have HB:Hid (Below w.heap.size w ((w.alloc (.cells #[.string s,.int .i64 4,.int .u32 o,.int .u32 f,.int .u32 g] 118)).alloc (.cells #[.string ⟨#[]⟩,.int .i64 0,.int .i64 0,.int .i64 0,.int .i32 0] 24))):=box2
 have hrb:w.heap.size≤w.heap.size+1:=by omega
 generalize (w.alloc (.cells #[.string s,.int .i64 4,.int .u32 o,.int .u32 f,.int .u32 g] 118)).alloc (.cells #[.string ⟨#[]⟩,.int .i64 0,.int .i64 0,.int .i64 0,.int .i32 0] 24)=V at *
 generalize hrb':w.heap.size+1=rb at *
 obtain⟨kc,_,zk⟩:=z0a k1
 obtain⟨rc,rf,zr⟩:=z0a r1
 have kc0:=kc 0 (.string s) rfl
 have kc1:=kc 1 (.int .i64 4) rfl
 have rc0:=rc 0 (.string ⟨#[]⟩) rfl
 have rc1:=rc 1 (.int .i64 0) rfl
 have rc2:=rc 2 (.int .i64 0) rfl
 have rc3:=rc 3 (.int .i64 0) rfl
 have rc4:=rc 4 (.int .i32 0) rfl
 have rf0:=rf 0
 have rf1:=rf 1
 have rf2:=rf 2
 have rf3:=rf 3
 have rf4:=rf 4
 clear kc rc rf k1 r1 hrb'
 go_wp2_with fail
 refine (C68.out _).mono ?_
 rintro e w68 ⟨rfl,hb68⟩
 have H68:Hid (Below V.heap.size V w68):=z0e (Below.refl V.heap.size V) hb68
 clear hb68
 go_wp2_with fail
 refine (C70.out _).mono ?_
 rintro e w70 ⟨rfl,hb70⟩
 have H70:Hid (Below V.heap.size V w70):=z0e H68.out hb70
 clear hb70
 go_wp2_with fail
 refine (C72.out _).mono ?_
 rintro e w72 ⟨rfl,hb72⟩
 have H72:Hid (Below V.heap.size V w72):=z0e H70.out hb72
 clear hb72
 go_wp2_with fail
 refine (C74.out _).mono ?_
 rintro e w74 ⟨rfl,hb74⟩
 have H74:Hid (Below V.heap.size V w74):=z0e H72.out hb74
 clear hb74
 go_wp2_with fail
 refine (C75.out _).mono ?_
 rintro e w75 ⟨rfl,hb75⟩
 have H75:Hid (Below V.heap.size V w75):=z0e H74.out hb75
 clear hb75
 go_wp2_with fail
 refine (CJ.out _).mono ?_
 rintro e W ⟨rfl,hbW⟩
 have HW:Hid (Below V.heap.size V W):=z0e H75.out hbW
 have HBW:Hid (Below w.heap.size w W):=z0e HB.out HW.out
 rw[← HW.out.cell (p:=⟨rb,0,none⟩) zr] at rc0
 rw[← HW.out.frozen (p:=⟨rb,0,none⟩) zr] at rf0
 rw[← HW.out.cell (p:=⟨rb,1,none⟩) zr] at rc1
 rw[← HW.out.frozen (p:=⟨rb,1,none⟩) zr] at rf1
 rw[← HW.out.cell (p:=⟨rb,2,none⟩) zr] at rc2
 rw[← HW.out.frozen (p:=⟨rb,2,none⟩) zr] at rf2
 rw[← HW.out.cell (p:=⟨rb,3,none⟩) zr] at rc3
 rw[← HW.out.frozen (p:=⟨rb,3,none⟩) zr] at rf3
 rw[← HW.out.cell (p:=⟨rb,4,none⟩) zr] at rc4
 rw[← HW.out.frozen (p:=⟨rb,4,none⟩) zr] at rf4
 rw[← HW.out.cell (p:=⟨w.heap.size,0,none⟩) zk] at kc0
 have zr':=Nat.lt_of_lt_of_le zr HW.out.size
 have zk':=Nat.lt_of_lt_of_le zk HW.out.size
 clear zr zk hbW
 go_wp2_with fail
 refine z1b 7 [] [.pointer (some ⟨w.heap.size,0,none⟩),.string s,.int .i64 a5,.int .i64 b5,.int .u32 jv,.int .i32 mv,.agg #[.string s,.int .i64 0,.int .i64 a5,.int .i64 b5,.int .i32 mv]] hm (by kernel_rfl) (by kernel_rfl) (by intro r hr;cases hr) ?_ (by intro r hr;cases hr) (by intro r hr;cases hr) ?_
 ·generalize hl:lay _ _ _=af
  have e2:af.tmps[2]?.getD undef=.pointer (some ⟨w.heap.size,0,none⟩):=by rw[← hl];kernel_rfl
  have e78:af.tmps[78]?.getD undef=.pointer (some ⟨w.heap.size,0,none⟩):=by rw[← hl];kernel_rfl
  have e6:af.tmps[6]?.getD undef=.int .i64 a5:=by rw[← hl];kernel_rfl
  have e7:af.tmps[7]?.getD undef=.int .i64 b5:=by rw[← hl];kernel_rfl
  have e9:af.tmps[9]?.getD undef=.int .u32 jv:=by rw[← hl];kernel_rfl
  have e82:af.tmps[82]?.getD undef=.int .u32 jv:=by rw[← hl];kernel_rfl
  have e79:af.tmps[79]?.getD undef=.string s:=by rw[← hl];kernel_rfl
  have e80:af.tmps[80]?.getD undef=.int .i64 a5:=by rw[← hl];kernel_rfl
  have e81:af.tmps[81]?.getD undef=.int .i64 b5:=by rw[← hl];kernel_rfl
  have e83:af.tmps[83]?.getD undef=.int .i32 mv:=by rw[← hl];kernel_rfl
  clear hl
  refine And.intro (fun w' hw=>?_) ?_
  ·exact z0d (by simp[execOp,go_sem,e2])
  refine And.intro (fun w' hw=>?_) ?_
  ·have c0:=hw.cell (p:=⟨w.heap.size,0,none⟩) zk'
   rw[kc0] at c0
   exact z0d (by simp[execOp,go_sem,e78,c0])
  refine And.intro (fun w' hw=>?_) ?_
  ·exact z0d (by simp[execOp,go_sem,e6])
  refine And.intro (fun w' hw=>?_) ?_
  ·exact z0d (by simp[execOp,go_sem,e7])
  refine And.intro (fun w' hw=>?_) ?_
  ·exact z0d (by simp[execOp,go_sem,e9])
  refine And.intro (fun w' hw=>?_) ?_
  ·exact z1k 86 #[.int .u32 jv,.int .i64 13] (by simp[go_sem,e82]) ((CS.out _).mono (by rintro e w'' ⟨rfl,rfl⟩;exact⟨rfl,Below.refl _ _⟩))
  refine And.intro (fun w' hw=>?_) ?_
  ·exact z0d (by simp[execOp,go_sem,e79,e80,e81,e83])
  exact True.intro
 ·intro β3 W3 hW3 _ _
  simp[z3o,lay,Act.put]
  rw[← hW3.cell (p:=⟨rb,0,none⟩) zr'] at rc0
  rw[← hW3.frozen (p:=⟨rb,0,none⟩) zr'] at rf0
  rw[← hW3.cell (p:=⟨rb,1,none⟩) zr'] at rc1
  rw[← hW3.frozen (p:=⟨rb,1,none⟩) zr'] at rf1
  rw[← hW3.cell (p:=⟨rb,2,none⟩) zr'] at rc2
  rw[← hW3.frozen (p:=⟨rb,2,none⟩) zr'] at rf2
  rw[← hW3.cell (p:=⟨rb,3,none⟩) zr'] at rc3
  rw[← hW3.frozen (p:=⟨rb,3,none⟩) zr'] at rf3
  rw[← hW3.cell (p:=⟨rb,4,none⟩) zr'] at rc4
  rw[← hW3.frozen (p:=⟨rb,4,none⟩) zr'] at rf4
  have HB3:Hid (Below w.heap.size w W3):=z0e HBW.out hW3
  clear hW3
  go_wp2
  obtain⟨Y,hY,y0,y1,y2,y3,y4,bY⟩:=z7y (v0:=.string s) (v1:=.int .i64 0) (v2:=.int .i64 a5) (v3:=.int .i64 b5) (v4:=.int .i32 mv) rc0 rc1 rc2 rc3 rc4 HB3.out hrb
  rw[← hY]
  clear hY
  refine bodyPost_ret (v:=.agg #[.string s,.int .i64 0,.int .i64 a5,.int .i64 b5,.int .i32 mv]) ?_ rfl ?_
  ·simp[results,Tryz.results70,go_sem,y0,y1,y2,y3,y4]
  ·refine⟨?_,bY⟩
   rw[show decM 4 x=mv from HM.out]
theorem dec_5 (s:ByteArray) (la o f g x:Int) (hla:la=5) (hx:U32 x) (w:World) :
  Calls Tryz.prog 70 #[.agg #[.string s,.int .i64 la,.int .u32 o,.int .u32 f,.int .u32 g],.int .u32 x] w fun e w'=>e=.returned (.agg #[.string s,.int .i64 (z0j x 7 5),.int .i64 0,.int .i64 0,.int .i32 (decM 5 x)])∧Below w.heap.size w w':=by
 have hm:Tryz.prog.follows .mixedOrders=true:=by kernel_rfl
 have CD:Hid _:=z1m x 7 5 hx (by omega) (by omega) (by omega) (by omega)
 have CA:Hid _:=z1m x 15 5 hx (by omega) (by omega) (by omega) (by omega)
 have CB:Hid _:=z1m x 20 5 hx (by omega) (by omega) (by omega) (by omega)
 obtain⟨hd0,hd1⟩:=z3g x 7 5 hx (by omega) (by omega) (by omega) (by omega) (by omega)
 obtain⟨ha0,ha1⟩:=z3g x 15 5 hx (by omega) (by omega) (by omega) (by omega) (by omega)
 obtain⟨hb0,hb1⟩:=z3g x 20 5 hx (by omega) (by omega) (by omega) (by omega) (by omega)
 have C91:Hid _:=z1m x 12 20 hx (by omega) (by omega) (by omega) (by omega)
 have U91:=z4n x 12 20
 have HM:Hid (decM 5 x=wrap32 (z0j x 12 20)):=by simp[decM,Hid]
 have hcv:IntKind.i32.wrap (z0j x 12 20)=wrap32 (z0j x 12 20):=wrap_i32x _
 generalize wrap32 (z0j x 12 20)=mv at *
 generalize z0j x 12 20=y91 at *
 clear U91
 generalize z0j x 7 5=d5 at *
 generalize z0j x 15 5=a5 at *
 generalize z0j x 20 5=b5 at *
 clear hx
 subst hla
 go_enter Tryz.func70,Tryz.ntmps70
 go_wp2_with fail
 refine (CD.out _).mono ?_
 rintro e w' ⟨rfl,rfl⟩
 go_wp2_with fail
 refine (CA.out _).mono ?_
 rintro e w' ⟨rfl,rfl⟩
 go_wp2_with fail
 refine (CB.out _).mono ?_
 rintro e w' ⟨rfl,rfl⟩
 have k1:((w.alloc (.cells #[.string s,.int .i64 5,.int .u32 o,.int .u32 f,.int .u32 g] 118)).alloc (.cells #[.string ⟨#[]⟩,.int .i64 0,.int .i64 0,.int .i64 0,.int .i32 0] 24)).heap[w.heap.size]?=some (.cells #[.string s,.int .i64 5,.int .u32 o,.int .u32 f,.int .u32 g] 118):=by
  rw[Below.heap_alloc _ _ _ (by simp),z0g]
 have r1:((w.alloc (.cells #[.string s,.int .i64 5,.int .u32 o,.int .u32 f,.int .u32 g] 118)).alloc (.cells #[.string ⟨#[]⟩,.int .i64 0,.int .i64 0,.int .i64 0,.int .i32 0] 24)).heap[w.heap.size+1]?=some (.cells #[.string ⟨#[]⟩,.int .i64 0,.int .i64 0,.int .i64 0,.int .i32 0] 24):=by
  have:=z0g (w.alloc (.cells #[.string s,.int .i64 5,.int .u32 o,.int .u32 f,.int .u32 g] 118)) (.cells #[.string ⟨#[]⟩,.int .i64 0,.int .i64 0,.int .i64 0,.int .i32 0] 24)
  rwa [World.size_alloc] at this
 have HB:Hid (Below w.heap.size w ((w.alloc (.cells #[.string s,.int .i64 5,.int .u32 o,.int .u32 f,.int .u32 g] 118)).alloc (.cells #[.string ⟨#[]⟩,.int .i64 0,.int .i64 0,.int .i64 0,.int .i32 0] 24))):=box2
 have hrb:w.heap.size≤w.heap.size+1:=by omega
 generalize (w.alloc (.cells #[.string s,.int .i64 5,.int .u32 o,.int .u32 f,.int .u32 g] 118)).alloc (.cells #[.string ⟨#[]⟩,.int .i64 0,.int .i64 0,.int .i64 0,.int .i32 0] 24)=V at *
 generalize hrb':w.heap.size+1=rb at *
 obtain⟨kc,_,zk⟩:=z0a k1
 obtain⟨rc,rf,zr⟩:=z0a r1
 have kc0:=kc 0 (.string s) rfl
 have kc1:=kc 1 (.int .i64 5) rfl
 have rc0:=rc 0 (.string ⟨#[]⟩) rfl
 have rc1:=rc 1 (.int .i64 0) rfl
 have rc2:=rc 2 (.int .i64 0) rfl
 have rc3:=rc 3 (.int .i64 0) rfl
 have rc4:=rc 4 (.int .i32 0) rfl
 have rf0:=rf 0
 have rf1:=rf 1
 have rf2:=rf 2
 have rf3:=rf 3
 have rf4:=rf 4
 clear kc rc rf k1 r1 hrb'
 go_wp2_with fail
 refine z1b 7 [] [.pointer (some ⟨w.heap.size,0,none⟩),.string s,.int .i64 d5,.int .u32 x,.int .u32 y91,.int .i32 mv,.agg #[.string s,.int .i64 d5,.int .i64 0,.int .i64 0,.int .i32 mv]] hm (by kernel_rfl) (by kernel_rfl) (by intro r hr;cases hr) ?_ (by intro r hr;cases hr) (by intro r hr;cases hr) ?_
 ·generalize hl:lay _ _ _=af
  have e2:af.tmps[2]?.getD undef=.pointer (some ⟨w.heap.size,0,none⟩):=by rw[← hl];kernel_rfl
  have e87:af.tmps[87]?.getD undef=.pointer (some ⟨w.heap.size,0,none⟩):=by rw[← hl];kernel_rfl
  have e5:af.tmps[5]?.getD undef=.int .i64 d5:=by rw[← hl];kernel_rfl
  have e1:af.tmps[1]?.getD undef=.int .u32 x:=by rw[← hl];kernel_rfl
  have e90:af.tmps[90]?.getD undef=.int .u32 x:=by rw[← hl];kernel_rfl
  have e91:af.tmps[91]?.getD undef=.int .u32 y91:=by rw[← hl];kernel_rfl
  have e88:af.tmps[88]?.getD undef=.string s:=by rw[← hl];kernel_rfl
  have e89:af.tmps[89]?.getD undef=.int .i64 d5:=by rw[← hl];kernel_rfl
  have e92:af.tmps[92]?.getD undef=.int .i32 mv:=by rw[← hl];kernel_rfl
  clear hl
  refine And.intro (fun w' hw=>?_) ?_
  ·exact z0d (by simp[execOp,go_sem,e2])
  refine And.intro (fun w' hw=>?_) ?_
  ·have c0:=hw.cell (p:=⟨w.heap.size,0,none⟩) zk
   rw[kc0] at c0
   exact z0d (by simp[execOp,go_sem,e87,c0])
  refine And.intro (fun w' hw=>?_) ?_
  ·exact z0d (by simp[execOp,go_sem,e5])
  refine And.intro (fun w' hw=>?_) ?_
  ·exact z0d (by simp[execOp,go_sem,e1])
  refine And.intro (fun w' hw=>?_) ?_
  ·exact z1k 50 #[.int .u32 x,.int .i64 12,.int .i64 20] (by simp[go_sem,e90]) ((C91.out _).mono (by rintro e w'' ⟨rfl,rfl⟩;exact⟨rfl,Below.refl _ _⟩))
  refine And.intro (fun w' hw=>?_) ?_
  ·exact z0d (by simp[execOp,go_sem,e91,hcv])
  refine And.intro (fun w' hw=>?_) ?_
  ·exact z0d (by simp[execOp,go_sem,e88,e89,e92])
  exact True.intro
 ·intro β3 W3 hW3 _ _
  simp[z3o,lay,Act.put]
  rw[← hW3.cell (p:=⟨rb,0,none⟩) zr] at rc0
  rw[← hW3.frozen (p:=⟨rb,0,none⟩) zr] at rf0
  rw[← hW3.cell (p:=⟨rb,1,none⟩) zr] at rc1
  rw[← hW3.frozen (p:=⟨rb,1,none⟩) zr] at rf1
  rw[← hW3.cell (p:=⟨rb,2,none⟩) zr] at rc2
  rw[← hW3.frozen (p:=⟨rb,2,none⟩) zr] at rf2
  rw[← hW3.cell (p:=⟨rb,3,none⟩) zr] at rc3
  rw[← hW3.frozen (p:=⟨rb,3,none⟩) zr] at rf3
  rw[← hW3.cell (p:=⟨rb,4,none⟩) zr] at rc4
  rw[← hW3.frozen (p:=⟨rb,4,none⟩) zr] at rf4
  have HB3:Hid (Below w.heap.size w W3):=z0e HB.out hW3
  clear hW3
  go_wp2
  obtain⟨Y,hY,y0,y1,y2,y3,y4,bY⟩:=z7y (v0:=.string s) (v1:=.int .i64 d5) (v2:=.int .i64 0) (v3:=.int .i64 0) (v4:=.int .i32 mv) rc0 rc1 rc2 rc3 rc4 HB3.out hrb
  rw[← hY]
  clear hY
  refine bodyPost_ret (v:=.agg #[.string s,.int .i64 d5,.int .i64 0,.int .i64 0,.int .i32 mv]) ?_ rfl ?_
  ·simp[results,Tryz.results70,go_sem,y0,y1,y2,y3,y4]
  ·refine⟨?_,bY⟩
   rw[show decM 5 x=mv from HM.out]
theorem dec_6 (s:ByteArray) (la o f g x:Int) (hla:la=6) (hx:U32 x) (w:World) :
  Calls Tryz.prog 70 #[.agg #[.string s,.int .i64 la,.int .u32 o,.int .u32 f,.int .u32 g],.int .u32 x] w fun e w'=>e=.returned (.agg #[.string s,.int .i64 (z0j x 7 5),.int .i64 0,.int .i64 0,.int .i32 (decM 6 x)])∧Below w.heap.size w w':=by
 have hm:Tryz.prog.follows .mixedOrders=true:=by kernel_rfl
 have CD:Hid _:=z1m x 7 5 hx (by omega) (by omega) (by omega) (by omega)
 have CA:Hid _:=z1m x 15 5 hx (by omega) (by omega) (by omega) (by omega)
 have CB:Hid _:=z1m x 20 5 hx (by omega) (by omega) (by omega) (by omega)
 obtain⟨hd0,hd1⟩:=z3g x 7 5 hx (by omega) (by omega) (by omega) (by omega) (by omega)
 obtain⟨ha0,ha1⟩:=z3g x 15 5 hx (by omega) (by omega) (by omega) (by omega) (by omega)
 obtain⟨hb0,hb1⟩:=z3g x 20 5 hx (by omega) (by omega) (by omega) (by omega) (by omega)
 have C97:Hid _:=ccutB x 31 1 hx (by omega) (by omega) (by omega) (by omega)
 have C99:Hid _:=ccutB x 12 8 hx (by omega) (by omega) (by omega) (by omega)
 have C101:Hid _:=ccutB x 20 1 hx (by omega) (by omega) (by omega) (by omega)
 have C103:Hid _:=ccutB x 21 10 hx (by omega) (by omega) (by omega) (by omega)
 have C104:Hid _:=ccutB 0 0 1 ⟨by omega,by omega⟩ (by omega) (by omega) (by omega) (by omega)
 have CJ:Hid _:=cjoin_new [(z0j x 31 1,1),(z0j x 12 8,8),(z0j x 20 1,1),(z0j x 21 10,10),(z0j 0 0 1,1)] 5 rfl (by omega) (by simp)
 have UJ:U32 (z3v [(z0j x 31 1,1),(z0j x 12 8,8),(z0j x 20 1,1),(z0j x 21 10,10),(z0j 0 0 1,1)] 0):=joinV_u32 _ _ ⟨by omega,by omega⟩
 have CS:Hid _:=csigned (z3v [(z0j x 31 1,1),(z0j x 12 8,8),(z0j x 20 1,1),(z0j x 21 10,10),(z0j 0 0 1,1)] 0) 21 UJ
 clear UJ
 have HM:Hid (decM 6 x=wrap32 (z2g (z3v [(z0j x 31 1,1),(z0j x 12 8,8),(z0j x 20 1,1),(z0j x 21 10,10),(z0j 0 0 1,1)] 0) 21)):=by simp[decM,Hid]
 generalize wrap32 (z2g (z3v [(z0j x 31 1,1),(z0j x 12 8,8),(z0j x 20 1,1),(z0j x 21 10,10),(z0j 0 0 1,1)] 0) 21)=mv at *
 generalize hJ:z3v [(z0j x 31 1,1),(z0j x 12 8,8),(z0j x 20 1,1),(z0j x 21 10,10),(z0j 0 0 1,1)] 0=jv at *
 generalize z0j x 31 1=y97 at *
 generalize z0j x 12 8=y99 at *
 generalize z0j x 20 1=y101 at *
 generalize z0j x 21 10=y103 at *
 generalize z0j 0 0 1=y104 at *
 clear hJ
 generalize z0j x 7 5=d5 at *
 generalize z0j x 15 5=a5 at *
 generalize z0j x 20 5=b5 at *
 clear hx
 subst hla
 go_enter Tryz.func70,Tryz.ntmps70
 go_wp2_with fail
 refine (CD.out _).mono ?_
 rintro e w' ⟨rfl,rfl⟩
 go_wp2_with fail
 refine (CA.out _).mono ?_
 rintro e w' ⟨rfl,rfl⟩
 go_wp2_with fail
 refine (CB.out _).mono ?_
 rintro e w' ⟨rfl,rfl⟩
 have k1:((w.alloc (.cells #[.string s,.int .i64 6,.int .u32 o,.int .u32 f,.int .u32 g] 118)).alloc (.cells #[.string ⟨#[]⟩,.int .i64 0,.int .i64 0,.int .i64 0,.int .i32 0] 24)).heap[w.heap.size]?=some (.cells #[.string s,.int .i64 6,.int .u32 o,.int .u32 f,.int .u32 g] 118):=by
  rw[Below.heap_alloc _ _ _ (by simp),z0g]
 have r1:((w.alloc (.cells #[.string s,.int .i64 6,.int .u32 o,.int .u32 f,.int .u32 g] 118)).alloc (.cells #[.string ⟨#[]⟩,.int .i64 0,.int .i64 0,.int .i64 0,.int .i32 0] 24)).heap[w.heap.size+1]?=some (.cells #[.string ⟨#[]⟩,.int .i64 0,.int .i64 0,.int .i64 0,.int .i32 0] 24):=by
  have:=z0g (w.alloc (.cells #[.string s,.int .i64 6,.int .u32 o,.int .u32 f,.int .u32 g] 118)) (.cells #[.string ⟨#[]⟩,.int .i64 0,.int .i64 0,.int .i64 0,.int .i32 0] 24)
  rwa [World.size_alloc] at this
 have HB:Hid (Below w.heap.size w ((w.alloc (.cells #[.string s,.int .i64 6,.int .u32 o,.int .u32 f,.int .u32 g] 118)).alloc (.cells #[.string ⟨#[]⟩,.int .i64 0,.int .i64 0,.int .i64 0,.int .i32 0] 24))):=box2
 have hrb:w.heap.size≤w.heap.size+1:=by omega
 generalize (w.alloc (.cells #[.string s,.int .i64 6,.int .u32 o,.int .u32 f,.int .u32 g] 118)).alloc (.cells #[.string ⟨#[]⟩,.int .i64 0,.int .i64 0,.int .i64 0,.int .i32 0] 24)=V at *
 generalize hrb':w.heap.size+1=rb at *
 obtain⟨kc,_,zk⟩:=z0a k1
 obtain⟨rc,rf,zr⟩:=z0a r1
 have kc0:=kc 0 (.string s) rfl
 have kc1:=kc 1 (.int .i64 6) rfl
 have rc0:=rc 0 (.string ⟨#[]⟩) rfl
 have rc1:=rc 1 (.int .i64 0) rfl
 have rc2:=rc 2 (.int .i64 0) rfl
 have rc3:=rc 3 (.int .i64 0) rfl
 have rc4:=rc 4 (.int .i32 0) rfl
 have rf0:=rf 0
 have rf1:=rf 1
 have rf2:=rf 2
 have rf3:=rf 3
 have rf4:=rf 4
 clear kc rc rf k1 r1 hrb'
 go_wp2_with fail
 refine (C97.out _).mono ?_
 rintro e w97 ⟨rfl,hb97⟩
 have H97:Hid (Below V.heap.size V w97):=z0e (Below.refl V.heap.size V) hb97
 clear hb97
 go_wp2_with fail
 refine (C99.out _).mono ?_
 rintro e w99 ⟨rfl,hb99⟩
 have H99:Hid (Below V.heap.size V w99):=z0e H97.out hb99
 clear hb99
 go_wp2_with fail
 refine (C101.out _).mono ?_
 rintro e w101 ⟨rfl,hb101⟩
 have H101:Hid (Below V.heap.size V w101):=z0e H99.out hb101
 clear hb101
 go_wp2_with fail
 refine (C103.out _).mono ?_
 rintro e w103 ⟨rfl,hb103⟩
 have H103:Hid (Below V.heap.size V w103):=z0e H101.out hb103
 clear hb103
 go_wp2_with fail
 refine (C104.out _).mono ?_
 rintro e w104 ⟨rfl,hb104⟩
 have H104:Hid (Below V.heap.size V w104):=z0e H103.out hb104
 clear hb104
 go_wp2_with fail
 refine (CJ.out _).mono ?_
 rintro e W ⟨rfl,hbW⟩
 have HW:Hid (Below V.heap.size V W):=z0e H104.out hbW
 have HBW:Hid (Below w.heap.size w W):=z0e HB.out HW.out
 rw[← HW.out.cell (p:=⟨rb,0,none⟩) zr] at rc0
 rw[← HW.out.frozen (p:=⟨rb,0,none⟩) zr] at rf0
 rw[← HW.out.cell (p:=⟨rb,1,none⟩) zr] at rc1
 rw[← HW.out.frozen (p:=⟨rb,1,none⟩) zr] at rf1
 rw[← HW.out.cell (p:=⟨rb,2,none⟩) zr] at rc2
 rw[← HW.out.frozen (p:=⟨rb,2,none⟩) zr] at rf2
 rw[← HW.out.cell (p:=⟨rb,3,none⟩) zr] at rc3
 rw[← HW.out.frozen (p:=⟨rb,3,none⟩) zr] at rf3
 rw[← HW.out.cell (p:=⟨rb,4,none⟩) zr] at rc4
 rw[← HW.out.frozen (p:=⟨rb,4,none⟩) zr] at rf4
 rw[← HW.out.cell (p:=⟨w.heap.size,0,none⟩) zk] at kc0
 have zr':=Nat.lt_of_lt_of_le zr HW.out.size
 have zk':=Nat.lt_of_lt_of_le zk HW.out.size
 clear zr zk hbW
 go_wp2_with fail
 refine z1b 6 [] [.pointer (some ⟨w.heap.size,0,none⟩),.string s,.int .i64 d5,.int .u32 jv,.int .i32 mv,.agg #[.string s,.int .i64 d5,.int .i64 0,.int .i64 0,.int .i32 mv]] hm (by kernel_rfl) (by kernel_rfl) (by intro r hr;cases hr) ?_ (by intro r hr;cases hr) (by intro r hr;cases hr) ?_
 ·generalize hl:lay _ _ _=af
  have e2:af.tmps[2]?.getD undef=.pointer (some ⟨w.heap.size,0,none⟩):=by rw[← hl];kernel_rfl
  have e107:af.tmps[107]?.getD undef=.pointer (some ⟨w.heap.size,0,none⟩):=by rw[← hl];kernel_rfl
  have e5:af.tmps[5]?.getD undef=.int .i64 d5:=by rw[← hl];kernel_rfl
  have e10:af.tmps[10]?.getD undef=.int .u32 jv:=by rw[← hl];kernel_rfl
  have e110:af.tmps[110]?.getD undef=.int .u32 jv:=by rw[← hl];kernel_rfl
  have e108:af.tmps[108]?.getD undef=.string s:=by rw[← hl];kernel_rfl
  have e109:af.tmps[109]?.getD undef=.int .i64 d5:=by rw[← hl];kernel_rfl
  have e111:af.tmps[111]?.getD undef=.int .i32 mv:=by rw[← hl];kernel_rfl
  clear hl
  refine And.intro (fun w' hw=>?_) ?_
  ·exact z0d (by simp[execOp,go_sem,e2])
  refine And.intro (fun w' hw=>?_) ?_
  ·have c0:=hw.cell (p:=⟨w.heap.size,0,none⟩) zk'
   rw[kc0] at c0
   exact z0d (by simp[execOp,go_sem,e107,c0])
  refine And.intro (fun w' hw=>?_) ?_
  ·exact z0d (by simp[execOp,go_sem,e5])
  refine And.intro (fun w' hw=>?_) ?_
  ·exact z0d (by simp[execOp,go_sem,e10])
  refine And.intro (fun w' hw=>?_) ?_
  ·exact z1k 86 #[.int .u32 jv,.int .i64 21] (by simp[go_sem,e110]) ((CS.out _).mono (by rintro e w'' ⟨rfl,rfl⟩;exact⟨rfl,Below.refl _ _⟩))
  refine And.intro (fun w' hw=>?_) ?_
  ·exact z0d (by simp[execOp,go_sem,e108,e109,e111])
  exact True.intro
 ·intro β3 W3 hW3 _ _
  simp[z3o,lay,Act.put]
  rw[← hW3.cell (p:=⟨rb,0,none⟩) zr'] at rc0
  rw[← hW3.frozen (p:=⟨rb,0,none⟩) zr'] at rf0
  rw[← hW3.cell (p:=⟨rb,1,none⟩) zr'] at rc1
  rw[← hW3.frozen (p:=⟨rb,1,none⟩) zr'] at rf1
  rw[← hW3.cell (p:=⟨rb,2,none⟩) zr'] at rc2
  rw[← hW3.frozen (p:=⟨rb,2,none⟩) zr'] at rf2
  rw[← hW3.cell (p:=⟨rb,3,none⟩) zr'] at rc3
  rw[← hW3.frozen (p:=⟨rb,3,none⟩) zr'] at rf3
  rw[← hW3.cell (p:=⟨rb,4,none⟩) zr'] at rc4
  rw[← hW3.frozen (p:=⟨rb,4,none⟩) zr'] at rf4
  have HB3:Hid (Below w.heap.size w W3):=z0e HBW.out hW3
  clear hW3
  go_wp2
  obtain⟨Y,hY,y0,y1,y2,y3,y4,bY⟩:=z7y (v0:=.string s) (v1:=.int .i64 d5) (v2:=.int .i64 0) (v3:=.int .i64 0) (v4:=.int .i32 mv) rc0 rc1 rc2 rc3 rc4 HB3.out hrb
  rw[← hY]
  clear hY
  refine bodyPost_ret (v:=.agg #[.string s,.int .i64 d5,.int .i64 0,.int .i64 0,.int .i32 mv]) ?_ rfl ?_
  ·simp[results,Tryz.results70,go_sem,y0,y1,y2,y3,y4]
  ·refine⟨?_,bY⟩
   rw[show decM 6 x=mv from HM.out]
theorem dec_7 (s:ByteArray) (la o f g x:Int) (hla:la=7) (hx:U32 x) (w:World) :
  Calls Tryz.prog 70 #[.agg #[.string s,.int .i64 la,.int .u32 o,.int .u32 f,.int .u32 g],.int .u32 x] w fun e w'=>e=.returned (.agg #[.string s,.int .i64 (z0j x 7 5),.int .i64 (z0j x 15 5),.int .i64 0,.int .i32 (decM 7 x)])∧Below w.heap.size w w':=by
 have hm:Tryz.prog.follows .mixedOrders=true:=by kernel_rfl
 have CD:Hid _:=z1m x 7 5 hx (by omega) (by omega) (by omega) (by omega)
 have CA:Hid _:=z1m x 15 5 hx (by omega) (by omega) (by omega) (by omega)
 have CB:Hid _:=z1m x 20 5 hx (by omega) (by omega) (by omega) (by omega)
 obtain⟨hd0,hd1⟩:=z3g x 7 5 hx (by omega) (by omega) (by omega) (by omega) (by omega)
 obtain⟨ha0,ha1⟩:=z3g x 15 5 hx (by omega) (by omega) (by omega) (by omega) (by omega)
 obtain⟨hb0,hb1⟩:=z3g x 20 5 hx (by omega) (by omega) (by omega) (by omega) (by omega)
 have C120:Hid _:=z1m x 20 12 hx (by omega) (by omega) (by omega) (by omega)
 have U120:=z4n x 20 12
 have HM:Hid (decM 7 x=wrap32 (z0j x 20 12)):=by simp[decM,Hid]
 have hcv:IntKind.i32.wrap (z0j x 20 12)=wrap32 (z0j x 20 12):=wrap_i32x _
 generalize wrap32 (z0j x 20 12)=mv at *
 generalize z0j x 20 12=y120 at *
 clear U120
 generalize z0j x 7 5=d5 at *
 generalize z0j x 15 5=a5 at *
 generalize z0j x 20 5=b5 at *
 clear hx
 subst hla
 go_enter Tryz.func70,Tryz.ntmps70
 go_wp2_with fail
 refine (CD.out _).mono ?_
 rintro e w' ⟨rfl,rfl⟩
 go_wp2_with fail
 refine (CA.out _).mono ?_
 rintro e w' ⟨rfl,rfl⟩
 go_wp2_with fail
 refine (CB.out _).mono ?_
 rintro e w' ⟨rfl,rfl⟩
 have k1:((w.alloc (.cells #[.string s,.int .i64 7,.int .u32 o,.int .u32 f,.int .u32 g] 118)).alloc (.cells #[.string ⟨#[]⟩,.int .i64 0,.int .i64 0,.int .i64 0,.int .i32 0] 24)).heap[w.heap.size]?=some (.cells #[.string s,.int .i64 7,.int .u32 o,.int .u32 f,.int .u32 g] 118):=by
  rw[Below.heap_alloc _ _ _ (by simp),z0g]
 have r1:((w.alloc (.cells #[.string s,.int .i64 7,.int .u32 o,.int .u32 f,.int .u32 g] 118)).alloc (.cells #[.string ⟨#[]⟩,.int .i64 0,.int .i64 0,.int .i64 0,.int .i32 0] 24)).heap[w.heap.size+1]?=some (.cells #[.string ⟨#[]⟩,.int .i64 0,.int .i64 0,.int .i64 0,.int .i32 0] 24):=by
  have:=z0g (w.alloc (.cells #[.string s,.int .i64 7,.int .u32 o,.int .u32 f,.int .u32 g] 118)) (.cells #[.string ⟨#[]⟩,.int .i64 0,.int .i64 0,.int .i64 0,.int .i32 0] 24)
  rwa [World.size_alloc] at this
 have HB:Hid (Below w.heap.size w ((w.alloc (.cells #[.string s,.int .i64 7,.int .u32 o,.int .u32 f,.int .u32 g] 118)).alloc (.cells #[.string ⟨#[]⟩,.int .i64 0,.int .i64 0,.int .i64 0,.int .i32 0] 24))):=box2
 have hrb:w.heap.size≤w.heap.size+1:=by omega
 generalize (w.alloc (.cells #[.string s,.int .i64 7,.int .u32 o,.int .u32 f,.int .u32 g] 118)).alloc (.cells #[.string ⟨#[]⟩,.int .i64 0,.int .i64 0,.int .i64 0,.int .i32 0] 24)=V at *
 generalize hrb':w.heap.size+1=rb at *
 obtain⟨kc,_,zk⟩:=z0a k1
 obtain⟨rc,rf,zr⟩:=z0a r1
 have kc0:=kc 0 (.string s) rfl
 have kc1:=kc 1 (.int .i64 7) rfl
 have rc0:=rc 0 (.string ⟨#[]⟩) rfl
 have rc1:=rc 1 (.int .i64 0) rfl
 have rc2:=rc 2 (.int .i64 0) rfl
 have rc3:=rc 3 (.int .i64 0) rfl
 have rc4:=rc 4 (.int .i32 0) rfl
 have rf0:=rf 0
 have rf1:=rf 1
 have rf2:=rf 2
 have rf3:=rf 3
 have rf4:=rf 4
 clear kc rc rf k1 r1 hrb'
 go_wp2_with fail
 refine z1b 8 [] [.pointer (some ⟨w.heap.size,0,none⟩),.string s,.int .i64 d5,.int .i64 a5,.int .u32 x,.int .u32 y120,.int .i32 mv,.agg #[.string s,.int .i64 d5,.int .i64 a5,.int .i64 0,.int .i32 mv]] hm (by kernel_rfl) (by kernel_rfl) (by intro r hr;cases hr) ?_ (by intro r hr;cases hr) (by intro r hr;cases hr) ?_
 ·generalize hl:lay _ _ _=af
  have e2:af.tmps[2]?.getD undef=.pointer (some ⟨w.heap.size,0,none⟩):=by rw[← hl];kernel_rfl
  have e115:af.tmps[115]?.getD undef=.pointer (some ⟨w.heap.size,0,none⟩):=by rw[← hl];kernel_rfl
  have e5:af.tmps[5]?.getD undef=.int .i64 d5:=by rw[← hl];kernel_rfl
  have e6:af.tmps[6]?.getD undef=.int .i64 a5:=by rw[← hl];kernel_rfl
  have e1:af.tmps[1]?.getD undef=.int .u32 x:=by rw[← hl];kernel_rfl
  have e119:af.tmps[119]?.getD undef=.int .u32 x:=by rw[← hl];kernel_rfl
  have e120:af.tmps[120]?.getD undef=.int .u32 y120:=by rw[← hl];kernel_rfl
  have e116:af.tmps[116]?.getD undef=.string s:=by rw[← hl];kernel_rfl
  have e117:af.tmps[117]?.getD undef=.int .i64 d5:=by rw[← hl];kernel_rfl
  have e118:af.tmps[118]?.getD undef=.int .i64 a5:=by rw[← hl];kernel_rfl
  have e121:af.tmps[121]?.getD undef=.int .i32 mv:=by rw[← hl];kernel_rfl
  clear hl
  refine And.intro (fun w' hw=>?_) ?_
  ·exact z0d (by simp[execOp,go_sem,e2])
  refine And.intro (fun w' hw=>?_) ?_
  ·have c0:=hw.cell (p:=⟨w.heap.size,0,none⟩) zk
   rw[kc0] at c0
   exact z0d (by simp[execOp,go_sem,e115,c0])
  refine And.intro (fun w' hw=>?_) ?_
  ·exact z0d (by simp[execOp,go_sem,e5])
  refine And.intro (fun w' hw=>?_) ?_
  ·exact z0d (by simp[execOp,go_sem,e6])
  refine And.intro (fun w' hw=>?_) ?_
  ·exact z0d (by simp[execOp,go_sem,e1])
  refine And.intro (fun w' hw=>?_) ?_
  ·exact z1k 50 #[.int .u32 x,.int .i64 20,.int .i64 12] (by simp[go_sem,e119]) ((C120.out _).mono (by rintro e w'' ⟨rfl,rfl⟩;exact⟨rfl,Below.refl _ _⟩))
  refine And.intro (fun w' hw=>?_) ?_
  ·exact z0d (by simp[execOp,go_sem,e120,hcv])
  refine And.intro (fun w' hw=>?_) ?_
  ·exact z0d (by simp[execOp,go_sem,e116,e117,e118,e121])
  exact True.intro
 ·intro β3 W3 hW3 _ _
  simp[z3o,lay,Act.put]
  rw[← hW3.cell (p:=⟨rb,0,none⟩) zr] at rc0
  rw[← hW3.frozen (p:=⟨rb,0,none⟩) zr] at rf0
  rw[← hW3.cell (p:=⟨rb,1,none⟩) zr] at rc1
  rw[← hW3.frozen (p:=⟨rb,1,none⟩) zr] at rf1
  rw[← hW3.cell (p:=⟨rb,2,none⟩) zr] at rc2
  rw[← hW3.frozen (p:=⟨rb,2,none⟩) zr] at rf2
  rw[← hW3.cell (p:=⟨rb,3,none⟩) zr] at rc3
  rw[← hW3.frozen (p:=⟨rb,3,none⟩) zr] at rf3
  rw[← hW3.cell (p:=⟨rb,4,none⟩) zr] at rc4
  rw[← hW3.frozen (p:=⟨rb,4,none⟩) zr] at rf4
  have HB3:Hid (Below w.heap.size w W3):=z0e HB.out hW3
  clear hW3
  go_wp2
  obtain⟨Y,hY,y0,y1,y2,y3,y4,bY⟩:=z7y (v0:=.string s) (v1:=.int .i64 d5) (v2:=.int .i64 a5) (v3:=.int .i64 0) (v4:=.int .i32 mv) rc0 rc1 rc2 rc3 rc4 HB3.out hrb
  rw[← hY]
  clear hY
  refine bodyPost_ret (v:=.agg #[.string s,.int .i64 d5,.int .i64 a5,.int .i64 0,.int .i32 mv]) ?_ rfl ?_
  ·simp[results,Tryz.results70,go_sem,y0,y1,y2,y3,y4]
  ·refine⟨?_,bY⟩
   rw[show decM 7 x=mv from HM.out]
theorem dec_8 (s:ByteArray) (la o f g x:Int) (hla:la=8) (hx:U32 x) (w:World) :
  Calls Tryz.prog 70 #[.agg #[.string s,.int .i64 la,.int .u32 o,.int .u32 f,.int .u32 g],.int .u32 x] w fun e w'=>e=.returned (.agg #[.string s,.int .i64 0,.int .i64 0,.int .i64 0,.int .i32 (decM 8 x)])∧Below w.heap.size w w':=by
 have hm:Tryz.prog.follows .mixedOrders=true:=by kernel_rfl
 have CD:Hid _:=z1m x 7 5 hx (by omega) (by omega) (by omega) (by omega)
 have CA:Hid _:=z1m x 15 5 hx (by omega) (by omega) (by omega) (by omega)
 have CB:Hid _:=z1m x 20 5 hx (by omega) (by omega) (by omega) (by omega)
 obtain⟨hd0,hd1⟩:=z3g x 7 5 hx (by omega) (by omega) (by omega) (by omega) (by omega)
 obtain⟨ha0,ha1⟩:=z3g x 15 5 hx (by omega) (by omega) (by omega) (by omega) (by omega)
 obtain⟨hb0,hb1⟩:=z3g x 20 5 hx (by omega) (by omega) (by omega) (by omega) (by omega)
 generalize z0j x 7 5=d5 at *
 generalize z0j x 15 5=a5 at *
 generalize z0j x 20 5=b5 at *
 clear hx
 subst hla
 go_enter Tryz.func70,Tryz.ntmps70
 go_wp2_with fail
 refine (CD.out _).mono ?_
 rintro e w' ⟨rfl,rfl⟩
 go_wp2_with fail
 refine (CA.out _).mono ?_
 rintro e w' ⟨rfl,rfl⟩
 go_wp2_with fail
 refine (CB.out _).mono ?_
 rintro e w' ⟨rfl,rfl⟩
 have k1:((w.alloc (.cells #[.string s,.int .i64 8,.int .u32 o,.int .u32 f,.int .u32 g] 118)).alloc (.cells #[.string ⟨#[]⟩,.int .i64 0,.int .i64 0,.int .i64 0,.int .i32 0] 24)).heap[w.heap.size]?=some (.cells #[.string s,.int .i64 8,.int .u32 o,.int .u32 f,.int .u32 g] 118):=by
  rw[Below.heap_alloc _ _ _ (by simp),z0g]
 have r1:((w.alloc (.cells #[.string s,.int .i64 8,.int .u32 o,.int .u32 f,.int .u32 g] 118)).alloc (.cells #[.string ⟨#[]⟩,.int .i64 0,.int .i64 0,.int .i64 0,.int .i32 0] 24)).heap[w.heap.size+1]?=some (.cells #[.string ⟨#[]⟩,.int .i64 0,.int .i64 0,.int .i64 0,.int .i32 0] 24):=by
  have:=z0g (w.alloc (.cells #[.string s,.int .i64 8,.int .u32 o,.int .u32 f,.int .u32 g] 118)) (.cells #[.string ⟨#[]⟩,.int .i64 0,.int .i64 0,.int .i64 0,.int .i32 0] 24)
  rwa [World.size_alloc] at this
 have HB:Hid (Below w.heap.size w ((w.alloc (.cells #[.string s,.int .i64 8,.int .u32 o,.int .u32 f,.int .u32 g] 118)).alloc (.cells #[.string ⟨#[]⟩,.int .i64 0,.int .i64 0,.int .i64 0,.int .i32 0] 24))):=box2
 have hrb:w.heap.size≤w.heap.size+1:=by omega
 generalize (w.alloc (.cells #[.string s,.int .i64 8,.int .u32 o,.int .u32 f,.int .u32 g] 118)).alloc (.cells #[.string ⟨#[]⟩,.int .i64 0,.int .i64 0,.int .i64 0,.int .i32 0] 24)=V at *
 generalize hrb':w.heap.size+1=rb at *
 obtain⟨kc,_,zk⟩:=z0a k1
 obtain⟨rc,rf,zr⟩:=z0a r1
 have kc0:=kc 0 (.string s) rfl
 have kc1:=kc 1 (.int .i64 8) rfl
 have rc0:=rc 0 (.string ⟨#[]⟩) rfl
 have rc1:=rc 1 (.int .i64 0) rfl
 have rc2:=rc 2 (.int .i64 0) rfl
 have rc3:=rc 3 (.int .i64 0) rfl
 have rc4:=rc 4 (.int .i32 0) rfl
 have rf0:=rf 0
 have rf1:=rf 1
 have rf2:=rf 2
 have rf3:=rf 3
 have rf4:=rf 4
 clear kc rc rf k1 r1 hrb'
 go_wp2
 obtain⟨Y,hY,y0,y1,y2,y3,y4,bY⟩:=z7y (v0:=.string s) (v1:=.int .i64 0) (v2:=.int .i64 0) (v3:=.int .i64 0) (v4:=.int .i32 0) rc0 rc1 rc2 rc3 rc4 HB.out hrb
 rw[← hY]
 clear hY
 refine bodyPost_ret (v:=.agg #[.string s,.int .i64 0,.int .i64 0,.int .i64 0,.int .i32 0]) ?_ rfl ?_
 ·simp[results,Tryz.results70,go_sem,y0,y1,y2,y3,y4]
 ·refine⟨?_,bY⟩
  rw[show decM 8 x=0 from rfl]
def keyW (x op g f:Int):Int × Int × Int:=
 if op=51 then (op,g,f)
 else if op=19 then (if g=1∨g=5 then (op,g,f) else (op,g,0))
 else if op=55∨op=23∨op=111 then (op,0,0)
 else if op=15 then (x,0,0)
 else if op=115 then (if g=0 then (x,0,0) else (op,g,0))
 else (op,g,0)
theorem ckey (x a b c:Int) (hx:U32 x) (hk:keyW x (z0j x 0 7) (z0j x 12 3) (z0j x 25 7)=(a,b,c)) (w:World) :
  Calls Tryz.prog 84 #[.int .u32 x] w fun e w'=>e=.returned (.agg #[.int .u32 a,.int .u32 b,.int .u32 c])∧Below w.heap.size w w':=by
 have C1:Hid _:=z1m x 0 7 hx (by omega) (by omega) (by omega) (by omega)
 have C2:Hid _:=z1m x 12 3 hx (by omega) (by omega) (by omega) (by omega)
 have C3:Hid _:=z1m x 25 7 hx (by omega) (by omega) (by omega) (by omega)
 generalize z0j x 0 7=op at *
 generalize z0j x 12 3=g at *
 generalize z0j x 25 7=f at *
 clear hx
 unfold keyW at hk
 have hcases:(op=51∨(op=19∧g=1)∨(op=19∧g=5)∨(op=19∧g≠1∧g≠5)∨op=55∨op=23∨op=111∨op=15∨(op=115∧g=0)∨(op=115∧g≠0))∨(op≠51∧op≠19∧op≠55∧op≠23∧op≠111∧op≠15∧op≠115):=by omega
 rcases hcases with (rfl | ⟨rfl,rfl⟩ | ⟨rfl,rfl⟩ | ⟨rfl,h',h''⟩ | rfl | rfl | rfl | rfl | ⟨rfl,rfl⟩ | ⟨rfl,h'⟩) | ⟨h1,h2,h3,h4,h5,h6,h7⟩
 ·simp at hk
  obtain⟨rfl,rfl,rfl⟩:=hk
  go_enter Tryz.func84,Tryz.ntmps84
  go_wp2_with fail
  refine (C1.out _).mono ?_
  rintro e w' ⟨rfl,rfl⟩
  go_wp2_with fail
  refine (C2.out _).mono ?_
  rintro e w' ⟨rfl,rfl⟩
  go_wp2_with fail
  refine (C3.out _).mono ?_
  rintro e w' ⟨rfl,rfl⟩
  go_wp2
  exact bodyPost_ret (v:=.agg #[.int .u32 (51),.int .u32 (g),.int .u32 (f)]) (by simp[results,Tryz.results84,go_sem]) rfl ⟨rfl,(Below.refl _ _).alloc (Nat.le_refl _) _⟩
 ·simp at hk
  obtain⟨rfl,rfl,rfl⟩:=hk
  go_enter Tryz.func84,Tryz.ntmps84
  go_wp2_with fail
  refine (C1.out _).mono ?_
  rintro e w' ⟨rfl,rfl⟩
  go_wp2_with fail
  refine (C2.out _).mono ?_
  rintro e w' ⟨rfl,rfl⟩
  go_wp2_with fail
  refine (C3.out _).mono ?_
  rintro e w' ⟨rfl,rfl⟩
  go_wp2
  exact bodyPost_ret (v:=.agg #[.int .u32 (19),.int .u32 (1),.int .u32 (f)]) (by simp[results,Tryz.results84,go_sem]) rfl ⟨rfl,(Below.refl _ _).alloc (Nat.le_refl _) _⟩
 ·simp at hk
  obtain⟨rfl,rfl,rfl⟩:=hk
  go_enter Tryz.func84,Tryz.ntmps84
  go_wp2_with fail
  refine (C1.out _).mono ?_
  rintro e w' ⟨rfl,rfl⟩
  go_wp2_with fail
  refine (C2.out _).mono ?_
  rintro e w' ⟨rfl,rfl⟩
  go_wp2_with fail
  refine (C3.out _).mono ?_
  rintro e w' ⟨rfl,rfl⟩
  go_wp2
  exact bodyPost_ret (v:=.agg #[.int .u32 (19),.int .u32 (5),.int .u32 (f)]) (by simp[results,Tryz.results84,go_sem]) rfl ⟨rfl,(Below.refl _ _).alloc (Nat.le_refl _) _⟩
 ·simp[h',h''] at hk
  obtain⟨rfl,rfl,rfl⟩:=hk
  have b1:(g==1)=false:=by simpa using h'
  have b5:(g==5)=false:=by simpa using h''
  go_enter Tryz.func84,Tryz.ntmps84
  go_wp2_with fail
  refine (C1.out _).mono ?_
  rintro e w' ⟨rfl,rfl⟩
  go_wp2_with fail
  refine (C2.out _).mono ?_
  rintro e w' ⟨rfl,rfl⟩
  go_wp2_with fail
  refine (C3.out _).mono ?_
  rintro e w' ⟨rfl,rfl⟩
  go_wp2
  exact bodyPost_ret (v:=.agg #[.int .u32 (19),.int .u32 (g),.int .u32 (0)]) (by simp[results,Tryz.results84,go_sem]) rfl ⟨rfl,(Below.refl _ _).alloc (Nat.le_refl _) _⟩
 ·simp at hk
  obtain⟨rfl,rfl,rfl⟩:=hk
  go_enter Tryz.func84,Tryz.ntmps84
  go_wp2_with fail
  refine (C1.out _).mono ?_
  rintro e w' ⟨rfl,rfl⟩
  go_wp2_with fail
  refine (C2.out _).mono ?_
  rintro e w' ⟨rfl,rfl⟩
  go_wp2_with fail
  refine (C3.out _).mono ?_
  rintro e w' ⟨rfl,rfl⟩
  go_wp2
  exact bodyPost_ret (v:=.agg #[.int .u32 (55),.int .u32 (0),.int .u32 (0)]) (by simp[results,Tryz.results84,go_sem]) rfl ⟨rfl,(Below.refl _ _).alloc (Nat.le_refl _) _⟩
 ·simp at hk
  obtain⟨rfl,rfl,rfl⟩:=hk
  go_enter Tryz.func84,Tryz.ntmps84
  go_wp2_with fail
  refine (C1.out _).mono ?_
  rintro e w' ⟨rfl,rfl⟩
  go_wp2_with fail
  refine (C2.out _).mono ?_
  rintro e w' ⟨rfl,rfl⟩
  go_wp2_with fail
  refine (C3.out _).mono ?_
  rintro e w' ⟨rfl,rfl⟩
  go_wp2
  exact bodyPost_ret (v:=.agg #[.int .u32 (23),.int .u32 (0),.int .u32 (0)]) (by simp[results,Tryz.results84,go_sem]) rfl ⟨rfl,(Below.refl _ _).alloc (Nat.le_refl _) _⟩
 ·simp at hk
  obtain⟨rfl,rfl,rfl⟩:=hk
  go_enter Tryz.func84,Tryz.ntmps84
  go_wp2_with fail
  refine (C1.out _).mono ?_
  rintro e w' ⟨rfl,rfl⟩
  go_wp2_with fail
  refine (C2.out _).mono ?_
  rintro e w' ⟨rfl,rfl⟩
  go_wp2_with fail
  refine (C3.out _).mono ?_
  rintro e w' ⟨rfl,rfl⟩
  go_wp2
  exact bodyPost_ret (v:=.agg #[.int .u32 (111),.int .u32 (0),.int .u32 (0)]) (by simp[results,Tryz.results84,go_sem]) rfl ⟨rfl,(Below.refl _ _).alloc (Nat.le_refl _) _⟩
 ·simp at hk
  obtain⟨rfl,rfl,rfl⟩:=hk
  go_enter Tryz.func84,Tryz.ntmps84
  go_wp2_with fail
  refine (C1.out _).mono ?_
  rintro e w' ⟨rfl,rfl⟩
  go_wp2_with fail
  refine (C2.out _).mono ?_
  rintro e w' ⟨rfl,rfl⟩
  go_wp2_with fail
  refine (C3.out _).mono ?_
  rintro e w' ⟨rfl,rfl⟩
  go_wp2
  exact bodyPost_ret (v:=.agg #[.int .u32 (x),.int .u32 (0),.int .u32 (0)]) (by simp[results,Tryz.results84,go_sem]) rfl ⟨rfl,(Below.refl _ _).alloc (Nat.le_refl _) _⟩
 ·simp at hk
  obtain⟨rfl,rfl,rfl⟩:=hk
  go_enter Tryz.func84,Tryz.ntmps84
  go_wp2_with fail
  refine (C1.out _).mono ?_
  rintro e w' ⟨rfl,rfl⟩
  go_wp2_with fail
  refine (C2.out _).mono ?_
  rintro e w' ⟨rfl,rfl⟩
  go_wp2_with fail
  refine (C3.out _).mono ?_
  rintro e w' ⟨rfl,rfl⟩
  go_wp2
  exact bodyPost_ret (v:=.agg #[.int .u32 (x),.int .u32 (0),.int .u32 (0)]) (by simp[results,Tryz.results84,go_sem]) rfl ⟨rfl,(Below.refl _ _).alloc (Nat.le_refl _) _⟩
 ·simp[h'] at hk
  obtain⟨rfl,rfl,rfl⟩:=hk
  have b0:(g==0)=false:=by simpa using h'
  go_enter Tryz.func84,Tryz.ntmps84
  go_wp2_with fail
  refine (C1.out _).mono ?_
  rintro e w' ⟨rfl,rfl⟩
  go_wp2_with fail
  refine (C2.out _).mono ?_
  rintro e w' ⟨rfl,rfl⟩
  go_wp2_with fail
  refine (C3.out _).mono ?_
  rintro e w' ⟨rfl,rfl⟩
  go_wp2
  exact bodyPost_ret (v:=.agg #[.int .u32 (115),.int .u32 (g),.int .u32 (0)]) (by simp[results,Tryz.results84,go_sem]) rfl ⟨rfl,(Below.refl _ _).alloc (Nat.le_refl _) _⟩
 ·simp[h1,h2,h3,h4,h5,h6,h7] at hk
  obtain⟨rfl,rfl,rfl⟩:=hk
  go_enter Tryz.func84,Tryz.ntmps84
  go_wp2_with fail
  refine (C1.out _).mono ?_
  rintro e w' ⟨rfl,rfl⟩
  go_wp2_with fail
  refine (C2.out _).mono ?_
  rintro e w' ⟨rfl,rfl⟩
  go_wp2_with fail
  refine (C3.out _).mono ?_
  rintro e w' ⟨rfl,rfl⟩
  go_wp2
  exact bodyPost_ret (v:=.agg #[.int .u32 (op),.int .u32 (g),.int .u32 (0)]) (by simp[results,Tryz.results84,go_sem]) rfl ⟨rfl,(Below.refl _ _).alloc (Nat.le_refl _) _⟩
section
open Go.RowKit Go.Maps
theorem undK:Tryz.prog.underlying 138=some (.array 3 31):=by kernel_rfl
theorem undM:Tryz.prog.underlying 140=some (.map 138 118):=by kernel_rfl
theorem laidB:laidOutB Tryz.prog=true:=by kernel_rfl
theorem rowK:(138:TypeId)<Tryz.prog.types.size:=of_decide_eq_true (by kernel_rfl)
theorem keyed:Keyed Tryz.prog 138:=Keyed.of_law (deep_law_laid laidB (m:=2) (by omega) rowK (by kernel_rfl) (by rw[undK]))
def klV (a b c:Int):Lit:=.string (keyBytes [.int .u32 a,.int .u32 b,.int .u32 c])
theorem wf_u32 {a:Int} (h:U32 a):(Lit.int .u32 a).wf=true:=by
 obtain⟨h0,h1⟩:=h
 simp[Lit.wf,IntKind.min,IntKind.max,IntKind.bits,IntKind.signed]
 omega
theorem keyType:Tryz.prog.keyType 138=true:=by kernel_rfl
theorem sizeT:∃ n,Tryz.prog.types.size+1=n+2:=⟨_,rfl⟩
theorem cellsK:Tryz.prog.cellsOf 138=3:=by kernel_rfl
theorem cellsW:Tryz.prog.cellsOf 31=1:=by kernel_rfl
theorem key_of {a b c:Int} (ha:U32 a) (hb:U32 b) (hc:U32 c):keyOf Tryz.prog 138 (.agg #[.int .u32 a,.int .u32 b,.int .u32 c])=some (klV a b c):=by
 have f:(Value.agg #[.int .u32 a,.int .u32 b,.int .u32 c]).formed Tryz.prog 138=true:=by simp[Value.formed,cellsK]
 obtain⟨n,hn⟩:=sizeT
 unfold keyOf
 rw[undK,keyType,f,hn]
 simp[Value.cells,Program.keyLits,cellsK,cellsW,wf_u32 ha,wf_u32 hb,wf_u32 hc,List.range,List.range.loop,klV]
theorem kl_inj {a b c a' b' c':Int} (ha:U32 a) (hb:U32 b) (hc:U32 c) (ha':U32 a') (hb':U32 b') (hc':U32 c') (h:klV a b c=klV a' b' c'):a=a'∧b=b'∧c=c':=by
 have h1:=key_of ha hb hc
 have h2:=key_of ha' hb' hc'
 rw[h] at h1
 have:=keyed.inj h1 h2
 injection this with e
 simp only[Array.mk.injEq,List.cons.injEq,Value.int.injEq,true_and,and_true] at e
 exact e
def datV (s:ByteArray) (la o f g:Int):DataW Unit:=.agg [.lit (.string s.data.toList),.lit (.int .i64 la),.lit (.int .u32 o),.lit (.int .u32 f),.lit (.int .u32 g)]
def readF (v:Value):Option (DataW Unit × List MemPlace):=
 match v with
 | .agg cs=>match cs.toList with
  | [.string s,.int .i64 la,.int .u32 o,.int .u32 f,.int .u32 g]=>some (datV s la o f g,[])
  | _=>none
 | _=>none
theorem readF_mk (s:ByteArray) (la o f g:Int):readF (.agg #[.string s,.int .i64 la,.int .u32 o,.int .u32 f,.int .u32 g])=some (datV s la o f g,[]):=rfl
theorem readF_inv {v:Value} {s:ByteArray} {la o f g:Int} {ps:List MemPlace} (h:readF v=some (datV s la o f g,ps)):v=.agg #[.string s,.int .i64 la,.int .u32 o,.int .u32 f,.int .u32 g]:=by
 unfold readF at h
 split at h
 ·rename_i cs
  split at h
  ·rename_i s' la' o' f' g' hl
   simp only[Option.some.injEq,Prod.mk.injEq,datV,DataW.agg.injEq,List.cons.injEq,DataW.lit.injEq,Lit.string.injEq,Lit.int.injEq,true_and,and_true] at h
   obtain⟨⟨h1,h2,h3,h4,h5⟩,_⟩:=h
   have hs:s'=s:=bytes_ext (by rw[ByteArray.toList_eq,ByteArray.toList_eq];exact h1)
   subst h2 h3 h4 h5 hs
   congr 1
   have:=congrArg List.toArray hl
   simpa using this
  ·cases h
 ·cases h
def fo (j:Nat):Int:=(z1d j).2.o
def fg (j:Nat):Int:=(z1d j).2.g
def ff (j:Nat):Int:=(z1d j).2.f
def datA (j:Nat):DataW Unit:=datV (opAt j) (lay9 (z1d j).2.k) (fo j) (ff j) (fg j)
def MapOf (opc:Int) (k:Nat) (D:DataW Unit):Prop:=∀ a b c,U32 a→U32 b→U32 c→
 (∃ j,j<k∧fo j=opc∧fo j=a∧fg j=b∧ff j=c∧Maps.has D (klV a b c)=true∧∀ z,D.atKey (klV a b c) z=datA j)∨
 ((∀ j,j<k→fo j=opc→¬(fo j=a∧fg j=b∧ff j=c))∧Maps.has D (klV a b c)=false)
theorem form_u32 (j:Nat) (h:j<53):U32 (fo j)∧U32 (ff j)∧U32 (fg j):=by
 have:∀ q∈z3w,U32 q.2.o∧U32 q.2.f∧U32 q.2.g:=by simp[z3w,U32]
 exact this _ (z6n j h)
theorem map_start (opc:Int):MapOf opc 0 (.map []):=fun _ _ _ _ _ _=>Or.inr ⟨fun j hj=>absurd hj (Nat.not_lt_zero j),rfl⟩
theorem map_skip {opc:Int} {k:Nat} {D:DataW Unit} (h:MapOf opc k D) (hk:fo k≠opc):MapOf opc (k+1) D:=by
 intro a b c ha hb hc
 rcases h a b c ha hb hc with ⟨j,hj,h⟩ | ⟨h1,h2⟩
 ·exact Or.inl ⟨j,by omega,h⟩
 ·refine Or.inr ⟨fun j hj ho=>?_,h2⟩
  rcases Nat.lt_succ_iff_lt_or_eq.mp hj with h | h
  ·exact h1 j h ho
  ·rw[h] at ho;exact absurd ho hk
theorem map_put {opc:Int} {k:Nat} {D:DataW Unit} (hk53:k<53) (hD:IsMap D) (h:MapOf opc k D) (hk:fo k=opc):MapOf opc (k+1) (D.put (klV (fo k) (fg k) (ff k)) (datA k)):=by
 obtain⟨u1,u2,u3⟩:=form_u32 k hk53
 intro a b c ha hb hc
 by_cases e:fo k=a∧fg k=b∧ff k=c
 ·obtain⟨rfl,rfl,rfl⟩:=e
  have hkl:=keyed.key (key_of ha hb hc)
  exact Or.inl ⟨k,by omega,hk,rfl,rfl,rfl,has_put_same hD hkl _,fun z=>atKey_put_same hD hkl _ z⟩
 ·have hne:klV a b c≠klV (fo k) (fg k) (ff k):=fun h=>e (by
   obtain⟨h1,h2,h3⟩:=kl_inj ha hb hc u1 u3 u2 h
   exact⟨h1.symm,h2.symm,h3.symm⟩)
  rw[has_put_other hne]
  rcases h a b c ha hb hc with ⟨j,hj,h1,h2,h3,h4,h5,h6⟩ | ⟨h1,h2⟩
  ·exact Or.inl ⟨j,by omega,h1,h2,h3,h4,h5,fun z=>by rw[atKey_put_other hne];exact h6 z⟩
  ·refine Or.inr ⟨fun j hj ho=>?_,h2⟩
   rcases Nat.lt_succ_iff_lt_or_eq.mp hj with h | h
   ·exact h1 j h ho
   ·rw[h];exact e
end
section
open Go.RowKit Go.Maps
theorem cformsWith (opc:Int) (w:World) :
  Calls Tryz.prog 85 #[.int .u32 opc] w fun e w'=>∃ g n D,e=.returned (.map (some g))∧w.heap.size≤g∧Below w.heap.size w w'∧w'.ownsMap Tryz.prog 138 readF g n D∧MapOf opc 53 D:=by
 have hown0:=World.ownsMap_made w Tryz.prog 138 readF
 have hmk:(Instr.makeMap 140 none).run Tryz.prog w=.ok (.map (some w.heap.size)) (w.alloc (.map #[] 0)):=by kernel_rfl
 go_enter Tryz.func85,Tryz.ntmps85
 go_wp2_with fail
 refine (cforms _).mono ?_
 rintro e w1 ⟨rfl,hb1⟩
 have hown1:w1.ownsMap Tryz.prog 138 readF w.heap.size 0 (.map []):=by
  obtain⟨es,clock,h1,h2⟩:=hown0
  exact⟨es,clock,z0f h1 hb1,h2⟩
 have HO:Hid _:=hown1
 have HB:Hid (Below w.heap.size w w1):=z1u hb1
 have HI:Hid (∀ k,k<53→∀ w,(Instr.index 178 (.agg z7p.toArray) (.int .i64 (k:Nat))).run Tryz.prog w=.ok (.agg (rowC k).toArray) w):=indexF
 clear hown0 hown1 hmk hb1
 generalize z7p.toArray=FC at *
 go_wp2_with fail
 go_loopw [8] (fun i wr=>∃ (k:Nat) (D:DataW Unit),k≤53∧i=.int .i64 k∧Hid (Below w.heap.size w wr)∧Hid (wr.ownsMap Tryz.prog 138 readF w.heap.size k D)∧Hid (MapOf opc k D)) (fun i _=>53-(intOf i).toNat)
 case atStart=>exact⟨0,.map [],Nat.zero_le _,rfl,HB,HO,map_start opc⟩
 case round=>
  obtain⟨k,D,hk,rfl,hbr,hown,hmap⟩:=hrel
  have hws:w.heap.size≤wr.heap.size:=hbr.out.size
  by_cases hlt:k<53
  ·have hi:=HI.out k hlt wr
   unfold rowC at hi
   obtain⟨u1,u2,u3⟩:=form_u32 k hlt
   obtain⟨la,HL⟩:∃ la,Hid (lay9 (z1d k).2.k=la):=⟨_,rfl⟩
   rw[HL.out] at hi
   have HD:Hid (datA k=datV (opAt k) la (fo k) (ff k) (fg k)):=by show _=_;unfold datA;rw[HL.out]
   change Sem.run _ _ _=Result.ok (Value.agg #[.string (opAt k),.int .i64 la,.int .u32 (fo k),.int .u32 (ff k),.int .u32 (fg k)]) _ at hi
   by_cases he:fo k=opc
   ·have HP:Hid (MapOf opc (k+1) (D.put (klV (fo k) (fg k) (ff k)) (datA k))):=map_put hlt hown.out.isMap hmap.out he
    have Hkey:Hid _:=key_of u1 u3 u2
    rw[HD.out] at HP
    generalize hfo:fo k=ko at *
    generalize fg k=kg at *
    generalize ff k=kf at *
    clear u1 u2 u3 hfo
    subst he
    go_wp2_with (first | (at_mapUpdate;refine wpList_mapUpdate_own _ rfl _ _ _ 140 rfl 138 118 keyed undM readF w.heap.size k D rfl (hown.out.alloc _) (by unfold maxLen;omega) _ _ _ rfl rfl Hkey.out _ [] (readF_mk (opAt k) la ko kf kg) ?_;intro w2 hown2 hgrow2))
    refine⟨⟨k+1,_,by omega,by go_num,?_,hown2,HP.out⟩,by simp[intOf];omega⟩
    exact z4b (hbr.out.alloc hws _) hgrow2 (by simp;omega) (Nat.le_refl _)
   ·have HP:Hid (MapOf opc (k+1) D):=map_skip hmap.out he
    go_wp2_with fail
    refine⟨⟨k+1,D,by omega,by go_num,hbr.out.alloc hws _,(hown.out.alloc _).mono (by omega),HP⟩,by simp[intOf];omega⟩
  ·have hk53:k=53:=by omega
   subst hk53
   go_wp2
   go_ret
   exact⟨_,_,_,rfl,Nat.le_refl _,hbr.out,hown.out,hmap.out⟩
end
section
open Go.RowKit Go.Maps
theorem zeroForm (w:World):(zeroValue 118).run Tryz.prog w=.ok (.agg #[.string ByteArray.empty,.int .i64 0,.int .u32 0,.int .u32 0,.int .u32 0]) w:=by kernel_rfl
def foundK (opc a b c:Int) (v:Value) (ok:Bool):Prop:=
 (∃ j,j<53∧fo j=opc∧fo j=a∧fg j=b∧ff j=c∧ok=true∧v=.agg #[.string (opAt j),.int .i64 (lay9 (z1d j).2.k),.int .u32 (fo j),.int .u32 (ff j),.int .u32 (fg j)])∨
 ((∀ j,j<53→fo j=opc→¬(fo j=a∧fg j=b∧ff j=c))∧ok=false∧v=.agg #[.string ByteArray.empty,.int .i64 0,.int .u32 0,.int .u32 0,.int .u32 0])
theorem keys_all:((List.range 53).all fun i=>(List.range 53).all fun j=>i==j || !(fo i==fo j&&fg i==fg j&&ff i==ff j))=true:=by decide +kernel
theorem keys_one {i j:Nat} (hi:i<53) (hj:j<53) (h1:fo i=fo j) (h2:fg i=fg j) (h3:ff i=ff j):i=j:=by
 have:=List.all_eq_true.1 (List.all_eq_true.1 keys_all i (List.mem_range.2 hi)) j (List.mem_range.2 hj)
 simp[h1,h2,h3] at this
 exact this
theorem foundK_one {opc a b c:Int} {v v':Value} {ok ok':Bool} (h:foundK opc a b c v ok) (h':foundK opc a b c v' ok'):v=v'∧ok=ok':=by
 rcases h with ⟨j,hj,h1,h2,h3,h4,h5,h6⟩ | ⟨h1,h2,h3⟩
 ·rcases h' with ⟨i,hi,g1,g2,g3,g4,g5,g6⟩ | ⟨g1,g2,g3⟩
  ·have:=keys_one hi hj (by rw[g2,h2]) (by rw[g3,h3]) (by rw[g4,h4])
   subst this
   exact⟨h6.trans g6.symm,h5.trans g5.symm⟩
  ·exact absurd ⟨h2,h3,h4⟩ (g1 j hj h1)
 ·rcases h' with ⟨i,hi,g1,g2,g3,g4,g5,g6⟩ | ⟨g1,g2,g3⟩
  ·exact absurd ⟨g2,g3,g4⟩ (h1 i hi g1)
  ·exact⟨h3.trans g3.symm,h2.trans g2.symm⟩
theorem foundK_some (opc a b c:Int):∃ s la o f g ok,foundK opc a b c (.agg #[.string s,.int .i64 la,.int .u32 o,.int .u32 f,.int .u32 g]) ok:=by
 by_cases h:∃ j,j<53∧fo j=opc∧fo j=a∧fg j=b∧ff j=c
 ·obtain⟨j,hj,h1,h2,h3,h4⟩:=h
  exact⟨_,_,_,_,_,_,Or.inl ⟨j,hj,h1,h2,h3,h4,rfl,rfl⟩⟩
 ·exact⟨_,_,_,_,_,_,Or.inr ⟨fun j hj h1 h2=>h ⟨j,hj,h1,h2⟩,rfl,rfl⟩⟩
def isMapOf (opc:Int) (g:Nat) (w:World):Prop:=∃ n D,w.ownsMap Tryz.prog 138 readF g n D∧MapOf opc 53 D
theorem isMapOf_kept (opc:Int) (g:Nat) (w w':World) (h:w'.heap[g]?=w.heap[g]?) (hm:isMapOf opc g w):isMapOf opc g w':=by
 obtain⟨n,D,⟨es,clock,h1,h2⟩,h3⟩:=hm
 exact⟨n,D,⟨es,clock,h.trans h1,h2⟩,h3⟩
theorem look_at {opc a b c:Int} (ha:U32 a) (hb:U32 b) (hc:U32 c) {v:Value} {ok:Bool} (hf:foundK opc a b c v ok) {g:Nat} {w:World} (hm:isMapOf opc g w) :
  (Instr.lookup 140 (.map (some g)) (.agg #[.int .u32 a,.int .u32 b,.int .u32 c]) true).run Tryz.prog w=.ok (.tuple #[v,.bool ok]) w:=by
 obtain⟨n,D,hown,hmap⟩:=hm
 obtain⟨v',ps,hrun,hv⟩:=hown.look_ok keyed undM (zeroForm w) (readF_mk _ _ _ _ _) (key_of ha hb hc)
 rcases hmap a b c ha hb hc with ⟨j,hj,h1,h2,h3,h4,h5,h6⟩ | ⟨h1,h2⟩
 ·rw[h6] at hv
  obtain⟨e1,e2⟩:=foundK_one hf (Or.inl ⟨j,hj,h1,h2,h3,h4,rfl,rfl⟩)
  rw[hrun,readF_inv hv,h5,e1,e2]
 ·rw[atKey_of_not_has h2] at hv
  obtain⟨e1,e2⟩:=foundK_one hf (Or.inr ⟨h1,rfl,rfl⟩)
  rw[hrun,readF_inv hv,h2,e1,e2]
theorem allocF (w:World):(Instr.alloc 118 true (.tuple #[])).run Tryz.prog w=.ok (.pointer (some ⟨w.heap.size,0,none⟩)) (w.alloc (.cells #[.string ⟨#[]⟩,.int .i64 0,.int .u32 0,.int .u32 0,.int .u32 0] 118)):=by kernel_rfl
theorem storeF (s:ByteArray) (la o f g:Int) (w:World) (b:Nat) (h:w.heap[b]?=some (.cells #[.string ⟨#[]⟩,.int .i64 0,.int .u32 0,.int .u32 0,.int .u32 0] 118)) :
  ∃ w',(Instr.storeAt 118 (.pointer (some ⟨b,0,none⟩)) (.agg #[.string s,.int .i64 la,.int .u32 o,.int .u32 f,.int .u32 g])).run Tryz.prog w=.ok () w'∧z9k b (.cells #[.string s,.int .i64 la,.int .u32 o,.int .u32 f,.int .u32 g] 118) w w':=by
 obtain⟨cc,cf,cs⟩:=z0a h
 have c0:=cc 0 (.string ⟨#[]⟩) rfl
 have c1:=cc 1 (.int .i64 0) rfl
 have c2:=cc 2 (.int .u32 0) rfl
 have c3:=cc 3 (.int .u32 0) rfl
 have c4:=cc 4 (.int .u32 0) rfl
 have f0:=cf 0
 have f1:=cf 1
 have f2:=cf 2
 have f3:=cf 3
 have f4:=cf 4
 refine⟨((((w.setCell ⟨b,0,none⟩ (.string s)).setCell ⟨b,1,none⟩ (.int .i64 la)).setCell ⟨b,2,none⟩ (.int .u32 o)).setCell ⟨b,3,none⟩ (.int .u32 f)).setCell ⟨b,4,none⟩ (.int .u32 g),by simp[go_sem,c0,c1,c2,c3,c4,f0,f1,f2,f3,f4],⟨rfl,rfl,rfl,by simp[World.setCell],?_,fun k hk=>?_⟩⟩
 ·rw[z1p _ (z1p _ (z1p _ (z1p _ (z1p _ h))))];rfl
 ·rw[Below.heap_setCell _ _ _ _ hk,Below.heap_setCell _ _ _ _ hk,Below.heap_setCell _ _ _ _ hk,Below.heap_setCell _ _ _ _ hk,Below.heap_setCell _ _ _ _ hk]
theorem cformIn (x a b c : Int) (hx : U32 x) (hk : keyW x (z0j x 0 7) (z0j x 12 3) (z0j x 25 7) = (a, b, c)) (ha : U32 a) (hb : U32 b) (hc : U32 c) (s : ByteArray) (la o f g : Int) (ok : Bool) (hf : foundK a a b c (.agg #[.string s, .int .i64 la, .int .u32 o, .int .u32 f, .int .u32 g]) ok) (w : World) :
    Calls Tryz.prog 69 #[.int .u32 x] w fun e w' => e = .returned (.tuple #[.agg #[.string s, .int .i64 la, .int .u32 o, .int .u32 f, .int .u32 g], .bool ok]) ∧ Below w.heap.size w w' := by
  have CK : Hid _ := ckey x a b c hx hk
  have CL : Hid _ := fun (g' : Nat) (w' : World) => look_at (g := g') (w := w') ha hb hc hf
  clear hx hk ha hb hc hf
  have hm : Tryz.prog.follows .mixedOrders = true := by kernel_rfl
  go_enter Tryz.func69, Tryz.ntmps69
  go_wp2_with fail
  refine (CK.out _).mono ?_
  rintro e w1 ⟨rfl, hb1⟩
  have HB : Hid (Below w.heap.size w w1) := z1u hb1
  have hr := z0m hb1
  clear hb1 CK
  go_wp2_with fail
  have k0 := z0g w1 (.cells #[.int .u32 a, .int .u32 b, .int .u32 c] 138)
  have hr2 := z0f hr ((Below.refl w1.heap.size w1).alloc (Nat.le_refl _) (.cells #[.int .u32 a, .int .u32 b, .int .u32 c] 138))
  have HB2 : Hid (Below w.heap.size w (w1.alloc (.cells #[.int .u32 a, .int .u32 b, .int .u32 c] 138))) := HB.out.alloc HB.out.size _
  clear hr HB
  generalize w1.alloc (.cells #[.int .u32 a, .int .u32 b, .int .u32 c] 138) = V at *
  generalize w1.heap.size = kb at *
  have Kc : ∀ w', Below V.heap.size V w' → ∀ (i : Nat) (v : Value), #[Value.int .u32 a, .int .u32 b, .int .u32 c][i]? = some v → w'.cell? ⟨kb, i, none⟩ = some v := fun w' h => (z0a (z0f k0 h)).1
  refine wp_region_mixh [⟨8, 5, 118, 9, 15, #[.string ⟨#[]⟩, .int .i64 0, .int .u32 0, .int .u32 0, .int .u32 0], #[.string s, .int .i64 la, .int .u32 o, .int .u32 f, .int .u32 g]⟩] ⟨2, 12, fun g => .map (some g), isMapOf a⟩
    [.pointer (some ⟨kb, 0, none⟩), .int .u32 a, undef, .agg #[.int .u32 a, .int .u32 b, .int .u32 c], .tuple #[.agg #[.string s, .int .i64 la, .int .u32 o, .int .u32 f, .int .u32 g], .bool ok], .tuple #[.agg #[.string s, .int .i64 la, .int .u32 o, .int .u32 f, .int .u32 g], .bool ok], .agg #[.string s, .int .i64 la, .int .u32 o, .int .u32 f, .int .u32 g], .bool ok, undef, undef, .bool ok]
    hm (by kernel_rfl) ?_ (by exact (by decide : 12 < 19)) (isMapOf_kept a) ?_ ?_ ?_ ?_
  · intro r hr
    simp only [List.mem_cons, List.not_mem_nil, or_false] at hr
    subst hr
    exact (by decide : 5 < 19)
  · generalize hl : lay _ _ _ = af
    have E : ∀ g' k v, k ≠ 12 → af.tmps[k]?.getD undef = v → ((af.put (some 12) (.map (some g'))).tmps[k]?).getD undef = v := fun g' k v hk hv => by rw [z1z (fun e => hk (Option.some.inj e).symm)]; exact hv
    have e4 := fun g' => E g' 4 (.pointer (some ⟨kb, 0, none⟩)) (by decide) (by rw [← hl]; kernel_rfl)
    have e10 := fun g' => E g' 10 (.pointer (some ⟨kb, 0, none⟩)) (by decide) (by rw [← hl]; kernel_rfl)
    have e13 := fun g' => E g' 13 (.agg #[.int .u32 a, .int .u32 b, .int .u32 c]) (by decide) (by rw [← hl]; kernel_rfl)
    have e14 := fun g' => E g' 14 (.tuple #[.agg #[.string s, .int .i64 la, .int .u32 o, .int .u32 f, .int .u32 g], .bool ok]) (by decide) (by rw [← hl]; kernel_rfl)
    have e9 := fun g' => E g' 9 (.tuple #[.agg #[.string s, .int .i64 la, .int .u32 o, .int .u32 f, .int .u32 g], .bool ok]) (by decide) (by rw [← hl]; kernel_rfl)
    have e16 := fun g' => E g' 16 (.bool ok) (by decide) (by rw [← hl]; kernel_rfl)
    have e11 : af.tmps[11]?.getD undef = .int .u32 a := by rw [← hl]; kernel_rfl
    have e12 : ∀ g', ((af.put (some 12) (.map (some g'))).tmps[12]?).getD undef = .map (some g') := fun g' => by
      rw [z6g]
      · rfl
      · rw [← hl, (z6h _ _ _).1]; exact (by decide : 12 < 19)
    clear hl E
    refine z3z (show (0 : Nat) ≠ 2 by decide) (fun g' w' hw hΦ => ?_) ?_
    · show Oper.quietAt Tryz.prog _ (af.put (some 12) (.map (some g'))) _ _ _
      have q4 := e4 g'
      generalize af.put (some 12) (.map (some g')) = A at q4 ⊢
      exact z0d (by simp [execOp, go_sem, q4])
    refine z3z (show (1 : Nat) ≠ 2 by decide) (fun g' w' hw hΦ => ?_) ?_
    · show Oper.quietAt Tryz.prog _ (af.put (some 12) (.map (some g'))) _ _ _
      have q10 := e10 g'
      generalize af.put (some 12) (.map (some g')) = A at q10 ⊢
      have c0 := Kc w' hw 0 (.int .u32 a) rfl
      exact z0d (by simp [execOp, go_sem, q10, c0])
    refine listH_call rfl (fun w' hw => ?_) ?_
    · have hrun : (execOp af.eval { dst := some 12, op := Op.call { callee := Callee.value (Operand.func 85), args := #[Operand.tmp 11], argTypes := #[31] }, type := 140, pos := "forms.go:92", after := #[{ on := 1, ground := Ground.data }], guard := none }).run Tryz.prog w' = .ok (.enter 85 #[.int .u32 a]) w' := by simp [go_sem, e11]
      unfold callAt
      rw [hrun]
      refine ⟨rfl, (cformsWith a w').mono ?_⟩
      rintro e w2 ⟨g', n, D, rfl, h1, h2, h3, h4⟩
      exact ⟨g', rfl, h1, h3.lt, h2, n, D, h3, h4⟩
    refine z3z (show (3 : Nat) ≠ 2 by decide) (fun g' w' hw hΦ => ?_) ?_
    · show Oper.quietAt Tryz.prog _ (af.put (some 12) (.map (some g'))) _ _ _
      have q4 := e4 g'
      generalize af.put (some 12) (.map (some g')) = A at q4 ⊢
      have c0 := Kc w' hw 0 (.int .u32 a) rfl
      have c1 := Kc w' hw 1 (.int .u32 b) rfl
      have c2 := Kc w' hw 2 (.int .u32 c) rfl
      exact z0d (by simp [execOp, go_sem, q4, c0, c1, c2])
    refine z3z (show (4 : Nat) ≠ 2 by decide) (fun g' w' hw hΦ => ?_) ?_
    · show Oper.quietAt Tryz.prog _ (af.put (some 12) (.map (some g'))) _ _ _
      have q12 := e12 g'
      have q13 := e13 g'
      generalize af.put (some 12) (.map (some g')) = A at q12 q13 ⊢
      have hl := CL.out g' w' (hΦ rfl)
      exact z0d (by simp [execOp, go_sem, q12, q13, hl])
    refine z3z (show (5 : Nat) ≠ 2 by decide) (fun g' w' hw hΦ => ?_) ?_
    · show Oper.quietAt Tryz.prog _ (af.put (some 12) (.map (some g'))) _ _ _
      have q14 := e14 g'
      generalize af.put (some 12) (.map (some g')) = A at q14 ⊢
      exact z0d (by simp [execOp, go_sem, q14])
    refine z3z (show (6 : Nat) ≠ 2 by decide) (fun g' w' hw hΦ => ?_) ?_
    · show Oper.quietAt Tryz.prog _ (af.put (some 12) (.map (some g'))) _ _ _
      have q9 := e9 g'
      generalize af.put (some 12) (.map (some g')) = A at q9 ⊢
      exact z0d (by simp [execOp, go_sem, q9])
    refine z3z (show (7 : Nat) ≠ 2 by decide) (fun g' w' hw hΦ => ?_) ?_
    · show Oper.quietAt Tryz.prog _ (af.put (some 12) (.map (some g'))) _ _ _
      have q9 := e9 g'
      generalize af.put (some 12) (.map (some g')) = A at q9 ⊢
      exact z0d (by simp [execOp, go_sem, q9])
    refine And.intro True.intro ?_
    refine And.intro True.intro ?_
    refine z3z (show (10 : Nat) ≠ 2 by decide) (fun g' w' hw hΦ => ?_) ?_
    · show Oper.quietAt Tryz.prog _ (af.put (some 12) (.map (some g'))) _ _ _
      have q16 := e16 g'
      generalize af.put (some 12) (.map (some g')) = A at q16 ⊢
      exact z0d (by simp [execOp, go_sem, q16])
    exact True.intro
  · intro r hr
    simp only [List.mem_cons, List.not_mem_nil, or_false] at hr
    subst hr
    exact allocF
  · intro r hr
    simp only [List.mem_cons, List.not_mem_nil, or_false] at hr
    generalize hl : lay _ _ _ = af
    have e15 : af.eval (.tmp 15) = .agg #[.string s, .int .i64 la, .int .u32 o, .int .u32 f, .int .u32 g] := by rw [← hl]; kernel_rfl
    clear hl
    subst hr
    intro w' b' hb
    rw [e15]
    exact storeF s la o f g w' b' hb
  intro β g0 W hW hbl hap
  have q5 := hbl _ (by simp : ⟨8, 5, 118, 9, 15, #[.string ⟨#[]⟩, .int .i64 0, .int .u32 0, .int .u32 0, .int .u32 0], #[.string s, .int .i64 la, .int .u32 o, .int .u32 f, .int .u32 g]⟩ ∈ _)
  simp at q5
  simp [z3o, lay, Act.put]
  generalize β 5 = x5 at *
  clear hbl hap CL Kc
  obtain ⟨c5, _, z5⟩ := z0a q5.2.2
  have c50 := c5 0 (.string s) rfl
  have c51 := c5 1 (.int .i64 la) rfl
  have c52 := c5 2 (.int .u32 o) rfl
  have c53 := c5 3 (.int .u32 f) rfl
  have c54 := c5 4 (.int .u32 g) rfl
  obtain ⟨rc, rf, zr⟩ := z0a (z0f hr2 hW)
  have rc0 := rc 0 (.string ⟨#[]⟩) rfl
  have rc1 := rc 1 (.int .i64 0) rfl
  have rc2 := rc 2 (.int .u32 0) rfl
  have rc3 := rc 3 (.int .u32 0) rfl
  have rc4 := rc 4 (.int .u32 0) rfl
  have rf0 := rf 0
  have rf1 := rf 1
  have rf2 := rf 2
  have rf3 := rf 3
  have rf4 := rf 4
  have HB3 : Hid (Below w.heap.size w W) := z0e HB2.out hW
  clear c5 rc rf q5 k0 hr2 hW
  go_wp2
  obtain ⟨Y, hY, y0, y1, y2, y3, y4, sY, _, bY⟩ := z6z (v0 := .string s) (v1 := .int .i64 la) (v2 := .int .u32 o) (v3 := .int .u32 f) (v4 := .int .u32 g) rc0 rc1 rc2 rc3 rc4 HB3.out
  rw [← hY]
  clear hY
  exact bodyPost_ret (v := .tuple #[.agg #[.string s, .int .i64 la, .int .u32 o, .int .u32 f, .int .u32 g], .bool ok]) (by simp [results, Tryz.results69, go_sem, y0, y1, y2, y3, y4]) rfl ⟨rfl, bY⟩
end
theorem bx (x:Int) (hx:U32 x) (l n:Nat) (hl:l<32) (hn:1≤n) (h:l+n≤32):z0j x l n=x/2 ^ l%2 ^ n:=bitsN hx l n hl hn h
theorem small32 {v:Int} (h0:0≤v) (h1:v<2147483648):wrap32 v=v:=by unfold wrap32;omega
theorem zero_bits:z0j 0 0 1=0:=by decide
theorem decM_0 (x:Int):decM 0 x=z2a 82 x:=by
 simp[decM,z2a]
theorem decM_1 (x:Int) (hx:U32 x):decM 1 x=z2a 73 x:=by
 obtain⟨x0,x1⟩:=hx
 have hx:U32 x:=⟨x0,x1⟩
 have h20_12:z0j x 20 12=x/2 ^ 20%2 ^ 12:=bx x hx 20 12 (by omega) (by omega) (by omega)
 simp at h20_12
 have e:decM 1 x=wrap32 (z2g (z0j x 20 12) 12):=by simp[decM]
 rw[e,ws12 (by omega) (by omega)]
 have e2:z2a 73 x=sx 2048 4096 (x/1048576):=by simp[z2a]
 rw[e2,h20_12]
 congr 1
 omega
theorem decM_2 (x:Int) (hx:U32 x):decM 2 x=z2a 83 x:=by
 obtain⟨x0,x1⟩:=hx
 have hx:U32 x:=⟨x0,x1⟩
 have h20_5:z0j x 20 5=x/2 ^ 20%2 ^ 5:=bx x hx 20 5 (by omega) (by omega) (by omega)
 simp at h20_5
 have e:decM 2 x=wrap32 (z0j x 20 5):=by simp[decM]
 rw[e,small32 (by omega) (by omega),h20_5]
 simp[z2a]
theorem decM_3 (x:Int) (hx:U32 x):decM 3 x=z2a 115 x:=by
 obtain⟨x0,x1⟩:=hx
 have hx:U32 x:=⟨x0,x1⟩
 have h25_7:z0j x 25 7=x/2 ^ 25%2 ^ 7:=bx x hx 25 7 (by omega) (by omega) (by omega)
 simp at h25_7
 have h7_5:z0j x 7 5=x/2 ^ 7%2 ^ 5:=bx x hx 7 5 (by omega) (by omega) (by omega)
 simp at h7_5
 have e:decM 3 x=wrap32 (z2g (z3v [(z0j x 25 7,7),(z0j x 7 5,5)] 0) 12):=by simp[decM]
 rw[e]
 generalize z0j x 25 7=y25 at *
 generalize z0j x 7 5=y7 at *
 rw[z9a [(y25,7),(y7,5)] 0 0 (by simp[fitsAll];omega) (by omega) (by simp) (by simp[bsum])]
 simp[polyV]
 rw[ws12 (by omega) (by omega)]
 simp only[z2a]
 simp
 congr 1
 omega
theorem decM_4 (x:Int) (hx:U32 x):decM 4 x=z2a 66 x:=by
 obtain⟨x0,x1⟩:=hx
 have hx:U32 x:=⟨x0,x1⟩
 have h31_1:z0j x 31 1=x/2 ^ 31%2 ^ 1:=bx x hx 31 1 (by omega) (by omega) (by omega)
 simp at h31_1
 have h7_1:z0j x 7 1=x/2 ^ 7%2 ^ 1:=bx x hx 7 1 (by omega) (by omega) (by omega)
 simp at h7_1
 have h25_6:z0j x 25 6=x/2 ^ 25%2 ^ 6:=bx x hx 25 6 (by omega) (by omega) (by omega)
 simp at h25_6
 have h8_4:z0j x 8 4=x/2 ^ 8%2 ^ 4:=bx x hx 8 4 (by omega) (by omega) (by omega)
 simp at h8_4
 have e:decM 4 x=wrap32 (z2g (z3v [(z0j x 31 1,1),(z0j x 7 1,1),(z0j x 25 6,6),(z0j x 8 4,4),(z0j 0 0 1,1)] 0) 13):=by simp[decM]
 rw[e]
 rw[zero_bits]
 generalize z0j x 31 1=y31 at *
 generalize z0j x 7 1=y7 at *
 generalize z0j x 25 6=y25 at *
 generalize z0j x 8 4=y8 at *
 rw[z9a [(y31,1),(y7,1),(y25,6),(y8,4),(0,1)] 0 0 (by simp[fitsAll];omega) (by omega) (by simp) (by simp[bsum])]
 simp[polyV]
 rw[ws13 (by omega) (by omega)]
 simp only[z2a]
 simp
 congr 1
 omega
theorem decM_5 (x:Int) (hx:U32 x):decM 5 x=z2a 85 x:=by
 obtain⟨x0,x1⟩:=hx
 have hx:U32 x:=⟨x0,x1⟩
 have h12_20:z0j x 12 20=x/2 ^ 12%2 ^ 20:=bx x hx 12 20 (by omega) (by omega) (by omega)
 simp at h12_20
 have e:decM 5 x=wrap32 (z0j x 12 20):=by simp[decM]
 rw[e,small32 (by omega) (by omega),h12_20]
 simp[z2a]
 omega
theorem decM_6 (x:Int) (hx:U32 x):decM 6 x=z2a 74 x:=by
 obtain⟨x0,x1⟩:=hx
 have hx:U32 x:=⟨x0,x1⟩
 have h31_1:z0j x 31 1=x/2 ^ 31%2 ^ 1:=bx x hx 31 1 (by omega) (by omega) (by omega)
 simp at h31_1
 have h12_8:z0j x 12 8=x/2 ^ 12%2 ^ 8:=bx x hx 12 8 (by omega) (by omega) (by omega)
 simp at h12_8
 have h20_1:z0j x 20 1=x/2 ^ 20%2 ^ 1:=bx x hx 20 1 (by omega) (by omega) (by omega)
 simp at h20_1
 have h21_10:z0j x 21 10=x/2 ^ 21%2 ^ 10:=bx x hx 21 10 (by omega) (by omega) (by omega)
 simp at h21_10
 have e:decM 6 x=wrap32 (z2g (z3v [(z0j x 31 1,1),(z0j x 12 8,8),(z0j x 20 1,1),(z0j x 21 10,10),(z0j 0 0 1,1)] 0) 21):=by simp[decM]
 rw[e]
 rw[zero_bits]
 generalize z0j x 31 1=y31 at *
 generalize z0j x 12 8=y12 at *
 generalize z0j x 20 1=y20 at *
 generalize z0j x 21 10=y21 at *
 rw[z9a [(y31,1),(y12,8),(y20,1),(y21,10),(0,1)] 0 0 (by simp[fitsAll];omega) (by omega) (by simp) (by simp[bsum])]
 simp[polyV]
 rw[ws21 (by omega) (by omega)]
 simp only[z2a]
 simp
 congr 1
 omega
theorem decM_7 (x:Int) (hx:U32 x):decM 7 x=z2a 67 x:=by
 obtain⟨x0,x1⟩:=hx
 have hx:U32 x:=⟨x0,x1⟩
 have h20_12:z0j x 20 12=x/2 ^ 20%2 ^ 12:=bx x hx 20 12 (by omega) (by omega) (by omega)
 simp at h20_12
 have e:decM 7 x=wrap32 (z0j x 20 12):=by simp[decM]
 rw[e,small32 (by omega) (by omega),h20_12]
 simp[z2a]
 omega
theorem decM_8 (x:Int):decM 8 x=z2a 87 x:=by
 simp[decM,z2a]
theorem cdecode (s:ByteArray) (k o g f x:Int) (hk:k=82∨k=73∨k=83∨k=115∨k=66∨k=85∨k=74∨k=67∨k=87) (hx:U32 x) (w:World) :
  Calls Tryz.prog 70 #[.agg #[.string s,.int .i64 (lay9 k),.int .u32 o,.int .u32 f,.int .u32 g],.int .u32 x] w fun e w'=>e=.returned (.agg #[.string s,.int .i64 (z2h k x),.int .i64 (z2j k x),.int .i64 (z2i k x),.int .i32 (z2a k x)])∧Below w.heap.size w w':=by
 have hd:z0j x 7 5=x/2 ^ 7%2 ^ 5:=bx x hx 7 5 (by omega) (by omega) (by omega)
 have ha:z0j x 15 5=x/2 ^ 15%2 ^ 5:=bx x hx 15 5 (by omega) (by omega) (by omega)
 have hb:z0j x 20 5=x/2 ^ 20%2 ^ 5:=bx x hx 20 5 (by omega) (by omega) (by omega)
 simp at hd ha hb
 rcases hk with rfl | rfl | rfl | rfl | rfl | rfl | rfl | rfl | rfl
 ·refine (dec_0 s (lay9 82) o f g x rfl hx w).mono ?_
  rintro e w' ⟨rfl,h⟩
  refine⟨?_,h⟩
  rw[decM_0 x]
  simp[z2h,z2j,z2i,hd,ha,hb]
 ·refine (dec_1 s (lay9 73) o f g x rfl hx w).mono ?_
  rintro e w' ⟨rfl,h⟩
  refine⟨?_,h⟩
  rw[decM_1 x hx]
  simp[z2h,z2j,z2i,hd,ha]
 ·refine (dec_2 s (lay9 83) o f g x rfl hx w).mono ?_
  rintro e w' ⟨rfl,h⟩
  refine⟨?_,h⟩
  rw[decM_2 x hx]
  simp[z2h,z2j,z2i,hd,ha]
 ·refine (dec_3 s (lay9 115) o f g x rfl hx w).mono ?_
  rintro e w' ⟨rfl,h⟩
  refine⟨?_,h⟩
  rw[decM_3 x hx]
  simp[z2h,z2j,z2i,ha,hb]
 ·refine (dec_4 s (lay9 66) o f g x rfl hx w).mono ?_
  rintro e w' ⟨rfl,h⟩
  refine⟨?_,h⟩
  rw[decM_4 x hx]
  simp[z2h,z2j,z2i,ha,hb]
 ·refine (dec_5 s (lay9 85) o f g x rfl hx w).mono ?_
  rintro e w' ⟨rfl,h⟩
  refine⟨?_,h⟩
  rw[decM_5 x hx]
  simp[z2h,z2j,z2i,hd]
 ·refine (dec_6 s (lay9 74) o f g x rfl hx w).mono ?_
  rintro e w' ⟨rfl,h⟩
  refine⟨?_,h⟩
  rw[decM_6 x hx]
  simp[z2h,z2j,z2i,hd]
 ·refine (dec_7 s (lay9 67) o f g x rfl hx w).mono ?_
  rintro e w' ⟨rfl,h⟩
  refine⟨?_,h⟩
  rw[decM_7 x hx]
  simp[z2h,z2j,z2i,hd,ha]
 ·refine (dec_8 s (lay9 87) o f g x rfl hx w).mono ?_
  rintro e w' ⟨rfl,h⟩
  refine⟨?_,h⟩
  rw[decM_8 x]
  simp[z2h,z2j,z2i]
theorem key_fields (x:Int) (hx:U32 x):z0j x 0 7=x%128∧z0j x 12 3=x/4096%8∧z0j x 25 7=x/33554432:=by
 have h1:z0j x 0 7=x/2 ^ 0%2 ^ 7:=bx x hx 0 7 (by omega) (by omega) (by omega)
 have h2:z0j x 12 3=x/2 ^ 12%2 ^ 3:=bx x hx 12 3 (by omega) (by omega) (by omega)
 have h3:z0j x 25 7=x/2 ^ 25%2 ^ 7:=bx x hx 25 7 (by omega) (by omega) (by omega)
 obtain⟨x0,x1⟩:=hx
 simp at h1 h2 h3
 exact⟨h1,h2,by omega⟩
theorem key_u32 {x a b c:Int} (hx:U32 x) (h:keyW x (x%128) (x/4096%8) (x/33554432)=(a,b,c)):U32 a∧U32 b∧U32 c:=by
 obtain⟨x0,x1⟩:=hx
 unfold keyW at h
 unfold U32
 split at h
 ·simp only[Prod.mk.injEq] at h;omega
 ·split at h
  ·split at h <;> (simp only[Prod.mk.injEq] at h;omega)
  ·split at h
   ·simp only[Prod.mk.injEq] at h;omega
   ·split at h
    ·simp only[Prod.mk.injEq] at h;omega
    ·split at h
     ·split at h <;> (simp only[Prod.mk.injEq] at h;omega)
     ·simp only[Prod.mk.injEq] at h;omega
def keyHas (p:z5f):Prop:=∀ x a b c:Int,U32 x→keyW x (x%128) (x/4096%8) (x/33554432)=(a,b,c)→((p.o=a∧p.g=b∧p.f=c)↔hasF p x)
theorem keyW_cases (x op g f a b c:Int) (h:keyW x op g f=(a,b,c)) :
  (op=51∧a=op∧b=g∧c=f)∨(op=19∧(g=1∨g=5)∧a=op∧b=g∧c=f)∨(op=19∧g≠1∧g≠5∧a=op∧b=g∧c=0)∨((op=55∨op=23∨op=111)∧a=op∧b=0∧c=0)∨
  (op=15∧a=x∧b=0∧c=0)∨(op=115∧g=0∧a=x∧b=0∧c=0)∨(op=115∧g≠0∧a=op∧b=g∧c=0)∨
  (op≠51∧op≠19∧op≠55∧op≠23∧op≠111∧op≠15∧op≠115∧a=op∧b=g∧c=0):=by
 unfold keyW at h
 by_cases h51:op=51
 ·rw[if_pos h51] at h;simp only[Prod.mk.injEq] at h;exact Or.inl ⟨h51,h.1.symm,h.2.1.symm,h.2.2.symm⟩
 rw[if_neg h51] at h
 refine Or.inr ?_
 by_cases h19:op=19
 ·rw[if_pos h19] at h
  by_cases hg:g=1∨g=5
  ·rw[if_pos hg] at h;simp only[Prod.mk.injEq] at h;exact Or.inl ⟨h19,hg,h.1.symm,h.2.1.symm,h.2.2.symm⟩
  ·rw[if_neg hg] at h;simp only[Prod.mk.injEq] at h;exact Or.inr (Or.inl ⟨h19,fun e=>hg (Or.inl e),fun e=>hg (Or.inr e),h.1.symm,h.2.1.symm,h.2.2.symm⟩)
 rw[if_neg h19] at h
 refine Or.inr (Or.inr ?_)
 by_cases hu:op=55∨op=23∨op=111
 ·rw[if_pos hu] at h;simp only[Prod.mk.injEq] at h;exact Or.inl ⟨hu,h.1.symm,h.2.1.symm,h.2.2.symm⟩
 rw[if_neg hu] at h
 refine Or.inr ?_
 by_cases h15:op=15
 ·rw[if_pos h15] at h;simp only[Prod.mk.injEq] at h;exact Or.inl ⟨h15,h.1.symm,h.2.1.symm,h.2.2.symm⟩
 rw[if_neg h15] at h
 refine Or.inr ?_
 by_cases hs:op=115
 ·rw[if_pos hs] at h
  by_cases hg:g=0
  ·rw[if_pos hg] at h;simp only[Prod.mk.injEq] at h;exact Or.inl ⟨hs,hg,h.1.symm,h.2.1.symm,h.2.2.symm⟩
  ·rw[if_neg hg] at h;simp only[Prod.mk.injEq] at h;exact Or.inr (Or.inl ⟨hs,hg,h.1.symm,h.2.1.symm,h.2.2.symm⟩)
 rw[if_neg hs] at h
 simp only[Prod.mk.injEq] at h
 exact Or.inr (Or.inr ⟨h51,h19,fun e=>hu (Or.inl e),fun e=>hu (Or.inr (Or.inl e)),fun e=>hu (Or.inr (Or.inr e)),h15,hs,h.1.symm,h.2.1.symm,h.2.2.symm⟩)
theorem key_has:∀ q∈z3w,keyHas q.2:=by
 intro q hq
 unfold z3w at hq
 simp only[List.mem_cons,List.not_mem_nil,or_false] at hq
 rcases hq with rfl | rfl | rfl | rfl | rfl | rfl | rfl | rfl | rfl | rfl | rfl | rfl | rfl | rfl | rfl | rfl | rfl | rfl | rfl | rfl | rfl | rfl | rfl | rfl | rfl | rfl | rfl | rfl | rfl | rfl | rfl | rfl | rfl | rfl | rfl | rfl | rfl | rfl | rfl | rfl | rfl | rfl | rfl | rfl | rfl | rfl | rfl | rfl | rfl | rfl | rfl | rfl | rfl
 all_goals
  intro x a b c hx h
  obtain⟨x0,x1⟩:=hx
  have hc:=keyW_cases _ _ _ _ _ _ _ h
  clear h
  simp[hasF]
  generalize hop:x%128=op at *
  generalize hg:x/4096%8=g at *
  generalize hf:x/33554432=f at *
  rcases hc with h | h | h | h | h | h | h | h <;> omega
theorem get_yes (x:Int) (s:ByteArray) (la o f g d a b m:Int)
  (CI:∀ w,Calls Tryz.prog 69 #[.int .u32 x] w fun e w'=>e=.returned (.tuple #[.agg #[.string s,.int .i64 la,.int .u32 o,.int .u32 f,.int .u32 g],.bool true])∧Below w.heap.size w w')
  (CD:∀ w,Calls Tryz.prog 70 #[.agg #[.string s,.int .i64 la,.int .u32 o,.int .u32 f,.int .u32 g],.int .u32 x] w fun e w'=>e=.returned (.agg #[.string s,.int .i64 d,.int .i64 a,.int .i64 b,.int .i32 m])∧Below w.heap.size w w') (w:World) :
  Calls Tryz.prog 54 #[.int .u32 x] w fun e w'=>e=.returned (.tuple #[.agg #[.string s,.int .i64 d,.int .i64 a,.int .i64 b,.int .i32 m],.int .i64 0])∧Below w.heap.size w w':=by
 have CI':Hid _:=CI
 have CD':Hid _:=CD
 clear CI CD
 go_enter Tryz.func54,Tryz.ntmps54
 go_wp2_with fail
 refine (CI'.out _).mono ?_
 rintro e w1 ⟨rfl,hb1⟩
 have HB:=z1u hb1
 have hr:=z0m hb1
 clear hb1
 go_wp2_with fail
 refine (CD'.out _).mono ?_
 rintro e w2 ⟨rfl,hb2⟩
 have HB2:Hid (Below w.heap.size w w2):=z0e HB (z1u hb2)
 obtain⟨rc,rf,zr⟩:=z0a (z0f hr (z1u hb2))
 have rc0:=rc 0 (.string ⟨#[]⟩) rfl
 have rc1:=rc 1 (.int .i64 0) rfl
 have rc2:=rc 2 (.int .i64 0) rfl
 have rc3:=rc 3 (.int .i64 0) rfl
 have rc4:=rc 4 (.int .i32 0) rfl
 have rf0:=rf 0
 have rf1:=rf 1
 have rf2:=rf 2
 have rf3:=rf 3
 have rf4:=rf 4
 clear rc rf hr hb2 HB
 go_wp2
 obtain⟨Y,hY,y0,y1,y2,y3,y4,sY,_,bY⟩:=z6z (v0:=.string s) (v1:=.int .i64 d) (v2:=.int .i64 a) (v3:=.int .i64 b) (v4:=.int .i32 m) rc0 rc1 rc2 rc3 rc4 HB2.out
 rw[← hY]
 clear hY
 exact bodyPost_ret (v:=.tuple #[.agg #[.string s,.int .i64 d,.int .i64 a,.int .i64 b,.int .i32 m],.int .i64 0]) (by simp[results,Tryz.results54,go_sem,y0,y1,y2,y3,y4]) rfl ⟨rfl,bY⟩
theorem get_no (x:Int) (s:ByteArray) (la o f g:Int)
  (CI:∀ w,Calls Tryz.prog 69 #[.int .u32 x] w fun e w'=>e=.returned (.tuple #[.agg #[.string s,.int .i64 la,.int .u32 o,.int .u32 f,.int .u32 g],.bool false])∧Below w.heap.size w w') (w:World) :
  Calls Tryz.prog 54 #[.int .u32 x] w fun e w'=>e=.returned (.tuple #[.agg #[.string ⟨#[]⟩,.int .i64 0,.int .i64 0,.int .i64 0,.int .i32 0],.int .i64 3])∧Below w.heap.size w w':=by
 have CI':Hid _:=CI
 clear CI
 go_enter Tryz.func54,Tryz.ntmps54
 go_wp2_with fail
 refine (CI'.out _).mono ?_
 rintro e w1 ⟨rfl,hb1⟩
 have HB:Hid (Below w.heap.size w (w1.alloc (.cells #[.string s,.int .i64 la,.int .u32 o,.int .u32 f,.int .u32 g] 118))):=(z1u hb1).alloc (z1u hb1).size _
 obtain⟨rc,rf,zr⟩:=z0a (z0f (z0m hb1) ((Below.refl w1.heap.size w1).alloc (Nat.le_refl _) (.cells #[.string s,.int .i64 la,.int .u32 o,.int .u32 f,.int .u32 g] 118)))
 have rc0:=rc 0 (.string ⟨#[]⟩) rfl
 have rc1:=rc 1 (.int .i64 0) rfl
 have rc2:=rc 2 (.int .i64 0) rfl
 have rc3:=rc 3 (.int .i64 0) rfl
 have rc4:=rc 4 (.int .i32 0) rfl
 have rf0:=rf 0
 have rf1:=rf 1
 have rf2:=rf 2
 have rf3:=rf 3
 have rf4:=rf 4
 clear rc rf hb1
 go_wp2_with fail
 generalize w1.alloc (.cells #[.string s,.int .i64 la,.int .u32 o,.int .u32 f,.int .u32 g] 118)=V at *
 obtain⟨Y,hY,y0,y1,y2,y3,y4,sY,_,bY⟩:=z6z (v0:=.string ⟨#[]⟩) (v1:=.int .i64 0) (v2:=.int .i64 0) (v3:=.int .i64 0) (v4:=.int .i32 0) rc0 rc1 rc2 rc3 rc4 HB.out
 rw[← hY]
 clear hY
 exact bodyPost_ret (v:=.tuple #[.agg #[.string ⟨#[]⟩,.int .i64 0,.int .i64 0,.int .i64 0,.int .i32 0],.int .i64 3]) (by simp[results,Tryz.results54,go_sem,y0,y1,y2,y3,y4]) rfl ⟨rfl,bY⟩
theorem get_of {x:Int} {j:Nat} (hj:j<53) (h:hasB (z1d j).2 x=true):getV x=some (z8i (z1d j) x):=by
 have hm:=z6n j hj
 unfold getV
 cases hf:z3w.find? fun q=>hasB q.2 x with
 | none=>exact absurd h (by simpa using List.find?_eq_none.1 hf _ hm)
 | some q=>
  have hq:=List.mem_of_find?_eq_some hf
  have hb:hasB q.2 x=true:=by simpa using List.find?_some hf
  have e1:=forms_apart hq hm x ((hasB_iff _ _).1 hb) ((hasB_iff _ _).1 h)
  have e2:q.2=(z1d j).2:=by rw[← z4s hq,e1,z4s hm]
  have e3:q=z1d j:=Prod.ext e1 e2
  rw[e3]
  rfl
theorem cGet (x:Int) (hx:U32 x):∃ s d a b m ok,toldOf x s d a b m ok∧∀ w,Calls Tryz.prog 54 #[.int .u32 x] w fun e w'=>
  e=.returned (.tuple #[.agg #[.string s,.int .i64 d,.int .i64 a,.int .i64 b,.int .i32 m],.int .i64 (if ok then 0 else 3)])∧Below w.heap.size w w':=by
 obtain⟨k1,k2,k3⟩:=key_fields x hx
 obtain⟨a,b,c,hk⟩:∃ a b c,keyW x (x%128) (x/4096%8) (x/33554432)=(a,b,c):=⟨_,_,_,rfl⟩
 obtain⟨ha,hb,hc⟩:=key_u32 hx hk
 obtain⟨s,la,o,f,g,ok,hf⟩:=foundK_some a a b c
 have hiff:∀ j,j<53→((fo j=a∧fg j=b∧ff j=c)↔hasB (z1d j).2 x=true):=fun j hj=>(key_has _ (z6n j hj) x a b c hx hk).trans (hasB_iff _ _).symm
 have CI:=cformIn x a b c hx (by rw[k1,k2,k3];exact hk) ha hb hc s la o f g ok hf
 rcases hf with ⟨j,hj,h1,h2,h3,h4,rfl,h6⟩ | ⟨h1,rfl,h3⟩
 ·simp only[Value.agg.injEq,Array.mk.injEq,List.cons.injEq,Value.string.injEq,Value.int.injEq,true_and,and_true] at h6
  obtain⟨rfl,rfl,rfl,rfl,rfl⟩:=h6
  have hh:=(hiff j hj).1 ⟨h2,h3,h4⟩
  have hkind:=kinds (opAt j).toList
  have hkne:=kind_ne j hj
  rw[formV_opAt j hj] at hkind hkne
  refine⟨opAt j,z2h (z1d j).2.k x,z2j (z1d j).2.k x,z2i (z1d j).2.k x,z2a (z1d j).2.k x,true,Or.inl ⟨rfl,?_⟩,?_⟩
  ·rw[get_of hj hh,opAt_form j hj];rfl
  ·exact get_yes x _ _ _ _ _ _ _ _ _ CI (fun w=>cdecode _ _ _ _ _ _ (by omega) hx w)
 ·refine⟨⟨#[]⟩,0,0,0,0,false,Or.inr ⟨rfl,rfl,rfl,rfl,rfl,rfl,find_not (fun j hj=>?_)⟩,get_no x _ _ _ _ _ CI⟩
  cases hh:hasB (z1d j).2 x with
  | false=>rfl
  | true=>
   have:=(hiff j hj).2 hh
   exact absurd this (h1 j hj this.1)
end Go.Proofs.YtilcoimelnpkeaaGreatDoor
